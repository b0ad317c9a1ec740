package prism

import (
	"testing"

	"prism/api"
)

// bounds are the least and the greatest number of each part of a
// configuration, beside a tree of depth 3 that begins at depth 2.
var bounds = []struct {
	name        string
	least, most int
}{
	{"Kind", 0, 1}, {"Depth", 2, 4}, {"Start", 0, 3}, {"Slots", 1, 4},
	{"Width", 1, 4}, {"Spin", 0, 8}, {"Drain", 0, 16}, {"Procs", 1, 16},
}

func checkNew(t *testing.T, n []int, good bool) {
	t.Helper()
	x, e := New(conf(n...))
	if good && (x == nil || e != api.OK) {
		t.Errorf("P3: New(%v) = %v, %d, want a tree", n, x, e)
	}
	if !good && (x != nil || e != api.ErrConfig) {
		t.Errorf("P3: New(%v) = %v, %d, want nil, 1", n, x, e)
	}
}

func TestNewBounds(t *testing.T) {
	for i, b := range bounds {
		for k := b.least - 20; k <= b.most+20; k++ {
			n := []int{1, 3, 2, 2, 2, 2, 2, 2}
			n[i] = k
			checkNew(t, n, b.least <= k && k <= b.most)
		}
		for _, k := range far() {
			n := []int{1, 3, 2, 2, 2, 2, 2, 2}
			n[i] = k
			checkNew(t, n, false)
		}
	}
}

func TestNewDepthAndStart(t *testing.T) {
	for depth := -3; depth <= 7; depth++ {
		for start := -3; start <= 7; start++ {
			good := 0 <= start && start <= depth && depth <= 4
			checkNew(t, []int{0, depth, start, 1, 1, 0, 0, 1}, good)
		}
	}
	for _, k := range far() {
		checkNew(t, []int{0, k, k, 1, 1, 0, 0, 1}, false)
		checkNew(t, []int{k, k, k, k, k, k, k, k}, false)
	}
}

func TestNewCorners(t *testing.T) {
	checkNew(t, []int{0, 0, 0, 1, 1, 0, 0, 1}, true)
	checkNew(t, []int{1, 4, 4, 4, 4, 8, 16, 16}, true)
	checkNew(t, []int{0, 0, 0, 0, 0, 0, 0, 0}, false)
	checkNew(t, []int{2, 5, 5, 5, 5, 9, 17, 17}, false)
}

// wanted adds what must be told of the node v and of all below it, by the
// document's rule for children, which goes from the root down.
func wanted(l []api.Node, v, depth, rank, start, width int) []api.Node {
	n := api.Node{Num: v, Depth: depth, Rank: rank}
	if depth == start {
		l[v] = n
		return l
	}
	n.Inner = true
	n.Width = 1
	for i := 0; i < width; i++ {
		n.Waiting = append(n.Waiting, api.None)
	}
	l[v] = n
	l = wanted(l, 2*v, depth+1, rank, start, width)
	return wanted(l, 2*v+1, depth+1, rank+1<<depth, start, width)
}

func TestNewIsAtItsBeginning(t *testing.T) {
	for kind := 0; kind <= 1; kind++ {
		for depth := 0; depth <= 4; depth++ {
			for start := 0; start <= depth; start++ {
				for width := 1; width <= 4; width++ {
					x := begin(t, kind, depth, start, 2, width, 1, 1, 3)
					want := seen{nodes: wanted(make([]api.Node, 2<<start), 1, 0, 0, start, width)[1:]}
					same(t, "P3", look(x), want)
				}
			}
		}
	}
}

// The numbers here are worked out by hand.
func TestRanksOfAFullTree(t *testing.T) {
	ranks := []int{0, 0, 1, 0, 2, 1, 3, 0, 4, 2, 6, 1, 5, 3, 7, 0, 8, 4, 12, 2, 10, 6, 14, 1, 9, 5, 13, 3, 11, 7, 15}
	depths := []int{0, 1, 1, 2, 2, 2, 2, 3, 3, 3, 3, 3, 3, 3, 3, 4, 4, 4, 4, 4, 4, 4, 4, 4, 4, 4, 4, 4, 4, 4, 4}
	l := begin(t, 0, 4, 4, 1, 1, 0, 0, 1).Nodes()
	if len(l) != 31 {
		t.Fatalf("P5: %d nodes, want 31", len(l))
	}
	for i, n := range l {
		if n.Num != i+1 || n.Rank != ranks[i] || n.Depth != depths[i] || n.Inner != (i < 15) {
			t.Errorf("P5: node %+v, want number %d, depth %d, rank %d, inner %v", n, i+1, depths[i], ranks[i], i < 15)
		}
	}
}
