package prism

import (
	"math"
	"testing"

	"prism/api"
)

// uneven is a pool whose node 2 is inner and whose node 3 is a leaf, in the
// midst of things. What a node of its kind has not is set too, as a change of
// its kind might leave it behind.
func uneven(t *testing.T) *Tree {
	t.Helper()
	x := begin(t, 1, 2, 2, 2, 3, 1, 1, 16)
	x.nodes[1].inside = 9
	x.nodes[1].toggle = 1
	x.nodes[1].width = 2
	x.nodes[1].slots[0] = slot{state: slotWaits, who: 0}
	x.nodes[1].slots[1] = slot{state: slotMet, who: 7}
	x.nodes[1].slots[2] = slot{state: slotFree, who: 4}
	x.nodes[1].puts = 3
	x.nodes[1].gets = 2
	x.nodes[1].items = []item{{state: itemLies, val: 1}}
	x.nodes[2].shut = true
	x.nodes[3] = node{there: true, inside: 4, puts: 8, gets: 3, toggle: 1, width: 2, items: []item{
		{state: itemTaken}, {state: itemTaken, val: 9}, {state: itemTaken}, {state: itemLies, val: -5},
		{state: itemLies, val: math.MaxInt}, {state: itemAwaited, val: 9}, {state: itemLies, val: 0}, {state: itemLies, val: -5},
	}}
	x.nodes[3].slots[0] = slot{state: slotWaits, who: 1}
	x.nodes[5].shut = true
	x.nodes[6] = node{}
	x.nodes[7] = node{}
	return x
}

func TestNodesOfAnUnevenTree(t *testing.T) {
	want := []api.Node{
		{Num: 1, Inner: true, Inside: 9, Toggle: 1, Width: 2, Waiting: []int{0, 7, -1}},
		{Num: 2, Depth: 1, Inner: true, Shut: true, Width: 1, Waiting: []int{-1, -1, -1}},
		{Num: 3, Depth: 1, Rank: 1, Inside: 4, Puts: 8, Gets: 3, Items: []int{-5, math.MaxInt, 0, -5}},
		{Num: 4, Depth: 2},
		{Num: 5, Depth: 2, Rank: 2, Shut: true},
	}
	same(t, "P5", seen{nodes: look(uneven(t)).nodes}, seen{nodes: want})
}

// lists are all lists of numbers in an answer of Nodes, spare room too.
func lists(l []api.Node) [][]int {
	var all [][]int
	for _, n := range l {
		all = append(all, n.Waiting[:cap(n.Waiting)], n.Items[:cap(n.Items)])
	}
	return all
}

// scribble writes into every list of an answer, spare room too, and tells the
// lists that it wrote into.
func scribble(l []api.Node) ([]api.Node, [][]int) {
	inner := lists(l)
	for _, list := range inner {
		for i := range list {
			list[i] = 4711
		}
	}
	outer := l[:cap(l)]
	for i := range outer {
		outer[i] = api.Node{Num: 4711}
	}
	return outer, inner
}

func TestNodesAreTheCallers(t *testing.T) {
	for _, x := range []*Tree{uneven(t), begin(t, 0, 4, 4, 1, 4, 0, 0, 2), begin(t, 1, 0, 0, 1, 1, 0, 0, 2)} {
		ahead := look(x)
		older := x.Nodes()
		for range 3 {
			scribble(x.Nodes())
			same(t, "P2", look(x), ahead)
		}
		same(t, "P2", told(older), seen{nodes: ahead.nodes})
	}
}

// told is an answer of Nodes with its empty lists made nil.
func told(l []api.Node) seen {
	var s seen
	for _, n := range l {
		if len(n.Waiting) == 0 {
			n.Waiting = nil
		}
		if len(n.Items) == 0 {
			n.Items = nil
		}
		s.nodes = append(s.nodes, n)
	}
	return s
}

// A call that comes later writes into no list that came out, spare room too.
func TestNodesAreLeftAlone(t *testing.T) {
	x := uneven(t)
	outer, inner := scribble(x.Nodes())
	spawn(t, x, api.Op{Kind: api.Put, Val: 3}, 0)
	spawn(t, x, api.Op{Kind: api.Fold, Node: 1}, 1)
	x.Nodes()
	x.nodes[1].slots[0] = slot{}
	x.nodes[3].items[3].val = 12
	x.Nodes()
	checkScribbled(t, outer, inner)
}

// checkScribbled checks that lists hold what scribble wrote into them.
func checkScribbled(t *testing.T, outer []api.Node, inner [][]int) {
	t.Helper()
	for _, n := range outer {
		if n.Num != 4711 || n.Waiting != nil || n.Items != nil {
			t.Errorf("P2: the outer list was written into: %+v", n)
		}
	}
	for _, list := range inner {
		for _, k := range list {
			if k != 4711 {
				t.Errorf("P2: a list that came out was written into: %v", list)
			}
		}
	}
}

func TestNodesShareNoMemory(t *testing.T) {
	for _, x := range []*Tree{uneven(t), begin(t, 1, 4, 4, 4, 4, 0, 0, 2), begin(t, 0, 4, 3, 4, 1, 0, 0, 2)} {
		checkApart(t, x)
	}
}

// checkApart gives each list that Nodes tells, in two answers, a number of its
// own: it must still hold it when all have one.
func checkApart(t *testing.T, x *Tree) {
	t.Helper()
	all := append(lists(x.Nodes()), lists(x.Nodes())...)
	for k, list := range all {
		for i := range list {
			list[i] = k
		}
	}
	for k, list := range all {
		for i := range list {
			if list[i] != k {
				t.Errorf("P2: list %d shares memory with list %d", k, list[i])
			}
		}
	}
}

// Two trees go on as each would alone.
func TestTreesDoNotTouch(t *testing.T) {
	alone := begin(t, 1, 2, 1, 1, 2, 0, 0, 3)
	spawn(t, alone, api.Op{Kind: api.Get}, 0)
	spawn(t, alone, api.Op{Kind: api.Fold, Node: 1}, 1)
	want := look(alone)
	x := begin(t, 1, 2, 1, 1, 2, 0, 0, 3)
	y := begin(t, 1, 2, 1, 1, 2, 0, 0, 3)
	fresh := look(y)
	spawn(t, x, api.Op{Kind: api.Get}, 0)
	same(t, "P2", look(y), fresh)
	for p := 0; p < 3; p++ {
		spawn(t, y, api.Op{Kind: api.Unfold, Node: 1}, p)
	}
	refuse(t, y, api.Op{Kind: api.Get}, api.ErrFull)
	y.nodes[2].items = append(y.nodes[2].items, item{state: itemLies, val: 4})
	y.nodes[1].slots[1] = slot{state: slotWaits, who: 2}
	scribble(y.Nodes())
	spawn(t, x, api.Op{Kind: api.Fold, Node: 1}, 1)
	same(t, "P2", look(x), want)
	same(t, "P2", look(alone), want)
	same(t, "P2", look(begin(t, 1, 2, 1, 1, 2, 0, 0, 3)), fresh)
}
