package prism

import (
	"fmt"
	"slices"
	"testing"

	"prism/api"
)

// fill lets new processes, from number p on, do their operations one after the
// other, each to its end. It tells the number of the next one.
func fill(t *testing.T, x *Tree, p int, list ...api.Op) int {
	t.Helper()
	for _, o := range list {
		spawn(t, x, o, p)
		finish(t, x, p)
		p++
	}
	return p
}

// incs are so many Incs.
func incs(often int) []api.Op { return make([]api.Op, often) }

// atChange lets a new Fold or Unfold, number p, come to Change.
func atChange(t *testing.T, x *Tree, p int, o api.Op) {
	t.Helper()
	approach(t, x, p, o)
	takes(t, x, p, 0, at(api.Drain, o.Node, 0), shuts)
	takes(t, x, p, 0, at(api.Change, o.Node, 0), nil)
}

// A counter's numbers add up, and part again: the greater half goes to child 0.
func TestFoldAndUnfoldOfACounter(t *testing.T) {
	for often := 0; often <= 9; often++ {
		x := begin(t, 0, 1, 1, 1, 3, 0, 0, 1)
		p := fill(t, x, 0, incs(often)...)
		for range 2 {
			atChange(t, x, p, fold(1))
			becomes(t, x, p, leafNode(1, 0, often))
			atChange(t, x, p+1, unfold(1))
			small := often / 2
			becomes(t, x, p+1, innerNode(1, 0, often%2, 3), leafNode(2, 0, often-small), leafNode(3, 0, small))
			p += 2
		}
		do(t, x, p, api.Op{Kind: api.Inc}, often)
	}
}

// Below the root: what the nodes elsewhere have stays.
func TestFoldAndUnfoldOfACounterBelow(t *testing.T) {
	for often := 0; often <= 9; often++ {
		x := begin(t, 0, 3, 2, 1, 2, 0, 0, 1)
		p := fill(t, x, 0, incs(often)...)
		even, odd := (often+1)/2, often/2
		atChange(t, x, p, fold(3))
		becomes(t, x, p, leafNode(3, 0, odd))
		finish(t, x, p)
		atChange(t, x, p+1, fold(2))
		becomes(t, x, p+1, leafNode(2, 0, even))
		finish(t, x, p+1)
		atChange(t, x, p+2, unfold(3))
		becomes(t, x, p+2, innerNode(3, 0, odd%2, 2), leafNode(6, 0, odd-odd/2), leafNode(7, 0, odd/2))
		finish(t, x, p+2)
		atChange(t, x, p+3, unfold(7))
		becomes(t, x, p+3, innerNode(7, 0, odd/2%2, 2), leafNode(14, 0, (odd/2+1)/2), leafNode(15, 0, odd/2/2))
		finish(t, x, p+3)
		do(t, x, p+4, api.Op{Kind: api.Inc}, often)
		do(t, x, p+5, api.Op{Kind: api.Inc}, often+1)
	}
}

// pools are operations at a pool whose root has two leaves: what must lie in
// the one and in the other behind them, and in what order together.
var pools = []struct {
	ops            []api.Op
	zero, one, all []int
}{
	{nil, nil, nil, nil},
	{[]api.Op{put(1)}, []int{1}, nil, []int{1}},
	{[]api.Op{put(1), put(2)}, []int{1}, []int{2}, []int{1, 2}},
	{[]api.Op{put(1), put(2), put(3)}, []int{1, 3}, []int{2}, []int{1, 2, 3}},
	{[]api.Op{put(-1), put(0), put(-1), put(7)}, []int{-1, -1}, []int{0, 7}, []int{-1, 0, -1, 7}},
	{[]api.Op{put(1), put(2), put(3), put(4), put(5), put(6), put(7)}, []int{1, 3, 5, 7}, []int{2, 4, 6}, []int{1, 2, 3, 4, 5, 6, 7}},
	{[]api.Op{put(1), get()}, nil, nil, nil},
	{[]api.Op{put(1), put(2), get()}, []int{1}, nil, []int{1}},
	{[]api.Op{put(1), put(2), put(3), get()}, []int{3}, []int{2}, []int{3, 2}},
	{[]api.Op{put(1), put(2), put(3), put(4), get()}, []int{1, 3}, []int{4}, []int{1, 4, 3}},
	{[]api.Op{put(1), put(2), put(3), put(4), get(), get()}, []int{3}, []int{4}, []int{3, 4}},
	{[]api.Op{put(1), put(2), put(3), get(), get(), get()}, nil, nil, nil},
	{[]api.Op{put(1), put(2), put(3), get(), get(), get(), put(4)}, []int{4}, nil, []int{4}},
	{[]api.Op{put(1), put(2), put(3), put(4), put(5), get(), get(), put(6), get(), put(7), put(8)}, []int{3, 5, 8}, []int{6, 7}, []int{3, 6, 5, 7, 8}},
}

// What lies comes together and parts again, under new tickets: nothing is left
// of those that were taken.
func TestFoldAndUnfoldOfAPool(t *testing.T) {
	for _, c := range pools {
		x := begin(t, 1, 1, 1, 4, 2, 0, 0, 1)
		p := fill(t, x, 0, c.ops...)
		for range 2 {
			atChange(t, x, p, fold(1))
			becomes(t, x, p, leafNode(1, 0, len(c.all), c.all...))
			atChange(t, x, p+1, unfold(1))
			becomes(t, x, p+1, innerNode(1, 0, len(c.all)%2, 2), leafNode(2, 0, len(c.zero), c.zero...), leafNode(3, 0, len(c.one), c.one...))
			p += 2
		}
	}
}

// The same at each node of depth 1 and 2, whose sisters have items too: the
// pool gets each operation as often as there are nodes of that depth.
func TestFoldAndUnfoldOfAPoolBelow(t *testing.T) {
	for depth := 1; depth <= 2; depth++ {
		for _, c := range pools[:6] {
			parts := 1 << depth
			x := begin(t, 1, 3, depth+1, 4, 1, 0, 0, 1)
			p := 0
			for _, o := range c.ops {
				for range parts {
					p = fill(t, x, p, o)
				}
			}
			for v := parts; v < 2*parts; v++ {
				atChange(t, x, p, fold(v))
				becomes(t, x, p, leafNode(v, 0, len(c.all), c.all...))
				finish(t, x, p)
				atChange(t, x, p+1, unfold(v))
				becomes(t, x, p+1, innerNode(v, 0, len(c.all)%2, 1), leafNode(2*v, 0, len(c.zero), c.zero...), leafNode(2*v+1, 0, len(c.one), c.one...))
				finish(t, x, p+1)
				p += 2
			}
		}
	}
}

// An Unfold of a leaf that was one from the beginning, with items that were
// taken away ahead of those that lie.
func TestUnfoldOfAPool(t *testing.T) {
	for puts := 0; puts <= 8; puts++ {
		for gets := 0; gets <= puts; gets++ {
			x := begin(t, 1, 2, 0, 2, 4, 0, 0, 1)
			p := 0
			var halves [2][]int
			for i := range puts {
				p = fill(t, x, p, put(10*i))
				if i >= gets {
					halves[(i-gets)%2] = append(halves[(i-gets)%2], 10*i)
				}
			}
			for range gets {
				p = fill(t, x, p, get())
			}
			leaf(t, x, 1, puts, gets, nodeOf(t, x, 1).Items...)
			atChange(t, x, p, unfold(1))
			becomes(t, x, p, innerNode(1, 0, (puts-gets)%2, 4), leafNode(2, 0, len(halves[0]), halves[0]...), leafNode(3, 0, len(halves[1]), halves[1]...))
		}
	}
}

// A child that is inner: nothing is changed but the gate. Which nodes are
// unfolded ahead, and of which node the Fold is.
func TestFoldAboveAnInnerChild(t *testing.T) {
	for kind := 0; kind <= 1; kind++ {
		for _, c := range []struct {
			ahead  []int
			target int
		}{{[]int{2}, 1}, {[]int{3}, 1}, {[]int{2, 3}, 1}, {[]int{2, 3, 7}, 3}, {[]int{2, 3, 4}, 2}, {[]int{2, 5}, 2}, {[]int{3, 6, 7}, 3}} {
			x := begin(t, kind, 3, 1, 2, 2, 0, 1, 3)
			p := fill(t, x, 0, ops(kind)[0], ops(kind)[0], ops(kind)[0])
			for _, v := range c.ahead {
				do(t, x, p, unfold(v), api.Changed)
				p++
			}
			approach(t, x, p, fold(c.target))
			takes(t, x, p, 0, at(api.Drain, c.target, 0), shuts)
			takes(t, x, p, 0, at(api.Change, c.target, 0), nil)
			takes(t, x, p, 0, above(c.target, api.NotLeaves), opens)
			for v := c.target / 2; v > 0; v /= 2 {
				takes(t, x, p, 0, above(v, api.NotLeaves), falls)
			}
			checkNoStep(t, x, p)
		}
	}
}

// A Fold, as NotLeaves, leaves the toggle, the width and what lies below as it
// is, and so does one that is given up (NotEmpty).
func TestFoldThatFailsChangesNothing(t *testing.T) {
	x := begin(t, 0, 2, 1, 1, 4, 2, 0, 16)
	p := widen(t, x, 0)
	p = widen(t, x, p)
	do(t, x, p, unfold(3), api.Changed)
	ahead := look(x).nodes
	do(t, x, p+1, fold(1), api.NotLeaves)
	same(t, "P9", seen{nodes: look(x).nodes}, seen{nodes: ahead})
	waits(t, x, api.Op{}, p+2, 0)
	ahead = look(x).nodes
	do(t, x, p+3, fold(1), api.NotEmpty)
	same(t, "P9", seen{nodes: look(x).nodes}, seen{nodes: ahead})
}

// A node that comes back is as new: its width is 1 again, its slots are free,
// its toggle is what the numbers in it tell.
func TestNodeThatComesBack(t *testing.T) {
	for often := 1; often <= 3; often++ {
		x, p := wide(t, 4, 2, often)
		p = fill(t, x, p, incs(often)...)
		numbers := 4 * often
		atChange(t, x, p, fold(1))
		becomes(t, x, p, leafNode(1, 0, numbers))
		p = fill(t, x, p+1, api.Op{Kind: api.Inc})
		atChange(t, x, p, unfold(1))
		becomes(t, x, p, innerNode(1, 0, 1, 4), leafNode(2, 0, 2*often+1), leafNode(3, 0, 2*often))
		spawn(t, x, api.Op{Kind: api.Inc}, p+1)
		walk(t, x, p+1, 3, api.Look, api.Wide, api.Slot, api.Claim)
		takes(t, x, p+1, 3, at(api.Wait, 1, 0), func(n *api.Node) { n.Waiting[0] = p + 1 })
		finish(t, x, p+1)
		stands(t, x, p+1, at(api.Done, 0, numbers+1))
	}
}

// Children that come back are as new: nothing is left of those that were there,
// nor of what was below them.
func TestChildrenThatComeBack(t *testing.T) {
	x := begin(t, 1, 2, 2, 4, 3, 0, 0, 1)
	p := 0
	for i := range 10 {
		p = fill(t, x, p, put(i))
	}
	for range 9 {
		p = fill(t, x, p, get())
	}
	last := -1
	for _, n := range x.Nodes() {
		for _, val := range n.Items {
			last = val
		}
	}
	for _, v := range []int{2, 3, 1} {
		atChange(t, x, p, fold(v))
		if v == 3 {
			becomes(t, x, p, leafNode(v, 0, 0))
		} else {
			becomes(t, x, p, leafNode(v, 0, 1, last))
		}
		leaves(t, x, p)
		p++
	}
	for _, v := range []int{1, 3, 2} {
		atChange(t, x, p, unfold(v))
		if v == 3 {
			becomes(t, x, p, innerNode(v, 0, 0, 3), leafNode(6, 0, 0), leafNode(7, 0, 0))
		} else {
			becomes(t, x, p, innerNode(v, 0, 1, 3), leafNode(2*v, 0, 1, last), leafNode(2*v+1, 0, 0))
		}
		leaves(t, x, p)
		p++
	}
}

// leaves lets a process that has turned from its target leave the nodes above
// it, if there are any.
func leaves(t *testing.T, x *Tree, p int) {
	t.Helper()
	if q, _ := x.Proc(p); q.Phase != api.Done {
		finish(t, x, p)
	}
}

// Behind a Fold the tickets go on from those of what came together, and the
// room is that of the greater leaf.
func TestTicketsBehindAFold(t *testing.T) {
	x := begin(t, 1, 1, 1, 2, 1, 0, 0, 16)
	p := fill(t, x, 0, put(1), get(), put(2), get(), put(3), get(), put(4), put(5), put(6))
	atChange(t, x, p, fold(1))
	becomes(t, x, p, leafNode(1, 0, 3, 4, 5, 6))
	p++
	atLeaf(t, x, p, put(7), put(8), put(9))
	stuck(t, x, p+1, p+2)
	stores(t, x, p, 4, 5, 6, 7)
	stuck(t, x, p+1, p+2)
	atLeaf(t, x, p+3, get(), get())
	fetches(t, x, p+4, 5, 4, 6, 7)
	stuck(t, x, p+1)
	stores(t, x, p+2, 4, 6, 7, 9)
	fetches(t, x, p+3, 4, 6, 7, 9)
	stores(t, x, p+1, 6, 7, 8, 9)
}

// Behind an Unfold each child's tickets go on from those of what it got, and
// its room is half of the room of the leaf that was.
func TestTicketsBehindAnUnfold(t *testing.T) {
	x := begin(t, 1, 1, 0, 2, 1, 0, 0, 16)
	p := fill(t, x, 0, put(1), get(), put(2), put(3), put(4))
	atChange(t, x, p, unfold(1))
	becomes(t, x, p, innerNode(1, 0, 1, 1), leafNode(2, 0, 2, 2, 4), leafNode(3, 0, 1, 3))
	p++
	for i, o := range []api.Op{put(5), put(6), put(7), get(), get()} {
		spawn(t, x, o, p+i)
		walk(t, x, p+i, 0, pastInner...)
		walk(t, x, p+i, 0, api.Look, api.Ticket)
		x.Step(p+i, 0)
	}
	stands(t, x, p, at(api.Store, 3, 0))
	stands(t, x, p+1, at(api.Store, 2, 0))
	stands(t, x, p+2, at(api.Store, 3, 0))
	stands(t, x, p+3, at(api.Fetch, 3, 0))
	stands(t, x, p+4, at(api.Fetch, 2, 0))
	leaf(t, x, 2, 3, 1, 2, 4)
	leaf(t, x, 3, 3, 1, 3)
	stuck(t, x, p+1, p+2)
	takes(t, x, p, 0, at(api.Leave, 3, 0), func(n *api.Node) { n.Items = []int{3, 5} })
	stuck(t, x, p+1, p+2)
	takes(t, x, p+4, 0, at(api.Leave, 2, 2), func(n *api.Node) { n.Items = []int{4} })
	stuck(t, x, p+2)
	takes(t, x, p+1, 0, at(api.Leave, 2, 0), func(n *api.Node) { n.Items = []int{4, 6} })
	takes(t, x, p+3, 0, at(api.Leave, 3, 3), func(n *api.Node) { n.Items = []int{5} })
	takes(t, x, p+2, 0, at(api.Leave, 3, 0), func(n *api.Node) { n.Items = []int{5, 7} })
}

// Behind a change without items a Get waits for the next Put's item.
func TestGetBehindAChange(t *testing.T) {
	x := begin(t, 1, 1, 1, 1, 1, 0, 0, 16)
	p := fill(t, x, 0, put(1), put(2), get(), get(), fold(1))
	atLeaf(t, x, p, get())
	stuck(t, x, p)
	atLeaf(t, x, p+1, put(8))
	stuck(t, x, p)
	stores(t, x, p+1, 8)
	fetches(t, x, p, 8)
	finish(t, x, p)
	finish(t, x, p+1)
	p = fill(t, x, p+2, unfold(1))
	for i, o := range []api.Op{get(), put(9)} {
		spawn(t, x, o, p+i)
		walk(t, x, p+i, 0, pastInner...)
		walk(t, x, p+i, 0, api.Look, api.Ticket)
		x.Step(p+i, 0)
	}
	stuck(t, x, p)
	takes(t, x, p+1, 0, at(api.Leave, 3, 0), func(n *api.Node) { n.Items = []int{9} })
	takes(t, x, p, 0, at(api.Leave, 3, 9), func(n *api.Node) { n.Items = nil })
}

// Incs go on behind a change, in turn and when they meet.
func TestNumbersBehindAChange(t *testing.T) {
	inc := api.Op{Kind: api.Inc}
	x := begin(t, 0, 1, 0, 1, 1, 0, 0, 16)
	p := fill(t, x, 0, inc, inc, inc, unfold(1))
	waits(t, x, inc, p, 0)
	sees(t, x, inc, p+1, 0)
	finish(t, x, p+1)
	finish(t, x, p)
	stands(t, x, p+1, at(api.Done, 0, 3))
	stands(t, x, p, at(api.Done, 0, 4))
	do(t, x, p+2, inc, 5)
	do(t, x, p+3, inc, 6)
	do(t, x, p+4, fold(1), api.Changed)
	do(t, x, p+5, inc, 7)
	do(t, x, p+6, inc, 8)
	do(t, x, p+7, unfold(1), api.Changed)
	do(t, x, p+8, inc, 9)
	leaf(t, x, 2, 5, 0)
	leaf(t, x, 3, 5, 0)
}

// checkShape checks which nodes are there, and that all gates are open and
// nobody is inside: the leaves are told below 0.
func checkShape(t *testing.T, x *Tree, want ...int) {
	t.Helper()
	var got []int
	for _, n := range x.Nodes() {
		if n.Inner {
			got = append(got, n.Num)
		} else {
			got = append(got, -n.Num)
		}
		if n.Shut || n.Inside != 0 {
			t.Errorf("P9: node %+v of a tree without live processes", n)
		}
	}
	if !slices.Equal(got, want) {
		t.Errorf("P9: the nodes are %v, want %v", got, want)
	}
}

// shape is the nodes of a tree whose first so many nodes are inner.
func shape(inner int) []int {
	var list []int
	for v := 1; v <= 2*inner+1; v++ {
		if v <= inner {
			list = append(list, v)
		} else {
			list = append(list, -v)
		}
	}
	return list
}

// From one leaf to the greatest tree, node by node, and back: what went in is
// as it was, and Folds and Unfolds of what is not there answer so.
func TestFromALeafToAFullTreeAndBack(t *testing.T) {
	for kind := 0; kind <= 1; kind++ {
		x := begin(t, kind, 4, 0, 1, 2, 0, 0, 1)
		p := 0
		for i := range 11 {
			o := ops(kind)[0]
			o.Val = 7 * i
			p = fill(t, x, p, o)
		}
		ahead := look(x).nodes
		for v := 1; v <= 15; v++ {
			do(t, x, p, fold(v), api.NotThere)
			do(t, x, p+1, unfold(v), api.Changed)
			do(t, x, p+2, unfold(v), api.NotThere)
			checkShape(t, x, shape(v)...)
			p += 3
		}
		for v := 15; v >= 1; v-- {
			do(t, x, p, fold(v), api.Changed)
			do(t, x, p+1, fold(v), api.NotThere)
			checkShape(t, x, shape(v-1)...)
			p += 2
		}
		same(t, "P9", seen{nodes: look(x).nodes}, seen{nodes: ahead})
		do(t, x, p, fold(15), api.NotThere)
		do(t, x, p+1, unfold(2), api.NotThere)
		refuse(t, x, fold(16), api.ErrOp)
		refuse(t, x, unfold(0), api.ErrOp)
	}
}

// Shapes that are not even: one side is deep, the other is a leaf.
func TestLopsidedShapes(t *testing.T) {
	x := begin(t, 0, 4, 1, 1, 1, 0, 0, 1)
	for p, c := range []struct {
		op    api.Op
		val   int
		shape []int
	}{
		{unfold(6), api.NotThere, []int{1, -2, -3}},
		{unfold(3), api.Changed, []int{1, -2, 3, -6, -7}},
		{unfold(6), api.Changed, []int{1, -2, 3, 6, -7, -12, -13}},
		{unfold(13), api.Changed, []int{1, -2, 3, 6, -7, -12, 13, -26, -27}},
		{fold(6), api.NotLeaves, []int{1, -2, 3, 6, -7, -12, 13, -26, -27}},
		{fold(3), api.NotLeaves, []int{1, -2, 3, 6, -7, -12, 13, -26, -27}},
		{fold(1), api.NotLeaves, []int{1, -2, 3, 6, -7, -12, 13, -26, -27}},
		{fold(7), api.NotThere, []int{1, -2, 3, 6, -7, -12, 13, -26, -27}},
		{fold(4), api.NotThere, []int{1, -2, 3, 6, -7, -12, 13, -26, -27}},
		{fold(13), api.Changed, []int{1, -2, 3, 6, -7, -12, -13}},
		{unfold(2), api.Changed, []int{1, 2, 3, -4, -5, 6, -7, -12, -13}},
		{fold(6), api.Changed, []int{1, 2, 3, -4, -5, -6, -7}},
		{fold(3), api.Changed, []int{1, 2, -3, -4, -5}},
		{fold(1), api.NotLeaves, []int{1, 2, -3, -4, -5}},
		{fold(2), api.Changed, []int{1, -2, -3}},
		{fold(1), api.Changed, []int{-1}},
	} {
		do(t, x, p, c.op, c.val)
		checkShape(t, x, c.shape...)
	}
}

// Lists that came out ahead of a change are the caller's, and so are those that
// come out behind it (P2).
func TestNodesAreTheCallersBesideAChange(t *testing.T) {
	x := begin(t, 1, 2, 1, 4, 2, 0, 0, 4)
	p := fill(t, x, 0, put(1), put(2), put(3), put(4), put(5))
	var outers [][]api.Node
	var inners [][][]int
	for i, o := range []api.Op{fold(1), unfold(1), put(6), unfold(2), get(), fold(2), put(7), fold(1), get()} {
		ahead := look(x)
		older := x.Nodes()
		outer, inner := scribble(x.Nodes())
		same(t, "P2", look(x), ahead)
		outers = append(outers, outer)
		inners = append(inners, inner)
		p = fill(t, x, p, o)
		same(t, fmt.Sprintf("P2, operation %d", i), told(older), seen{nodes: ahead.nodes})
	}
	leaf(t, x, 1, 6, 1, nodeOf(t, x, 1).Items...)
	for i := range outers {
		checkScribbled(t, outers[i], inners[i])
	}
	do(t, x, p, unfold(1), api.Changed)
	checkApart(t, x)
}

// A tree goes on as it would alone, whatever is folded in another (P2).
func TestTreesDoNotTouchBesideAChange(t *testing.T) {
	alone := begin(t, 1, 2, 1, 2, 2, 0, 0, 4)
	x := begin(t, 1, 2, 1, 2, 2, 0, 0, 4)
	y := begin(t, 1, 2, 1, 2, 2, 0, 0, 4)
	others := []api.Op{put(9), unfold(2), put(8), fold(2), fold(1), get(), get(), put(7), unfold(1)}
	for p, o := range []api.Op{put(1), put(2), put(3), fold(1), get(), unfold(1), put(4), unfold(3), get()} {
		fill(t, alone, p, o)
		fill(t, y, p, others[p])
		fill(t, x, p, o)
		same(t, "P2", look(x), look(alone))
	}
}

// A call that answers an error changes nothing while a gate is shut, or behind
// a change (P1); a Fold and an Unfold are live until they are Done.
func TestErrorsBesideAChange(t *testing.T) {
	x := begin(t, 0, 2, 2, 1, 1, 0, 2, 2)
	approach(t, x, 0, fold(2))
	approach(t, x, 1, unfold(3))
	for _, phase := range []int{api.Drain, api.Change, api.Leave, api.Done} {
		walk(t, x, 0, 0, phase)
		if phase != api.Done {
			refuse(t, x, fold(1), api.ErrFull)
		}
		refuse(t, x, fold(4), api.ErrOp)
		refuse(t, x, api.Op{Kind: api.Get}, api.ErrOp)
		checkNoStep(t, x, 2)
	}
	stands(t, x, 0, at(api.Done, 0, api.Changed))
	checkNoStep(t, x, 0)
	walk(t, x, 1, 0, api.Leave)
	spawn(t, x, unfold(2), 2)
	refuse(t, x, fold(1), api.ErrFull)
	walk(t, x, 1, 0, api.Done)
	spawn(t, x, fold(1), 3)
	refuse(t, x, fold(1), api.ErrFull)
}
