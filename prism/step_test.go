package prism

import (
	"testing"

	"prism/api"
)

// The ways of a process that nobody meets, from Enter to the next Enter behind
// an inner node, at Spin 0.
var pastInner = []int{api.Look, api.Wide, api.Slot, api.Claim, api.Wait, api.Shrink, api.Toggle, api.Enter}

// ops are the operations of a kind of tree that walk down.
func ops(kind int) []api.Op {
	if kind == api.Counter {
		return []api.Op{{Kind: api.Inc}}
	}
	return []api.Op{{Kind: api.Put, Val: 8}, {Kind: api.Get}}
}

// all are the operations of a kind of tree, those that change node v too.
func all(kind, v int) []api.Op {
	return append(ops(kind), api.Op{Kind: api.Fold, Node: v}, api.Op{Kind: api.Unfold, Node: v})
}

// checkNoStep checks that Step of a process answers ErrProc, and changes nothing.
func checkNoStep(t *testing.T, x *Tree, p int) {
	t.Helper()
	ahead := look(x)
	for _, draw := range append(far(), -1, 0, 1) {
		if ph, e := x.Step(p, draw); ph != 0 || e != api.ErrProc {
			t.Errorf("P6: Step(%d, %d) of %d processes = %d, %d, want 0, 5", p, draw, len(ahead.procs), ph, e)
		}
	}
	same(t, "P1", look(x), ahead)
}

func TestStepOfNoProcess(t *testing.T) {
	for kind := 0; kind <= 1; kind++ {
		x := begin(t, kind, 2, 1, 2, 2, 0, 1, 3)
		for count := 0; count <= 3; count++ {
			for _, p := range append(far(), -256, -2, -1, count, count+1, 16, 255, 256, 257) {
				checkNoStep(t, x, p)
			}
			if count < 3 {
				spawn(t, x, ops(kind)[0], count)
				walk(t, x, count, 0, pastInner[:3*count]...)
			}
		}
	}
}

func TestStepOfOneThatIsDone(t *testing.T) {
	x := begin(t, 1, 1, 1, 1, 1, 0, 0, 3)
	spawn(t, x, api.Op{Kind: api.Put, Val: 4}, 0)
	spawn(t, x, api.Op{Kind: api.Get}, 1)
	spawn(t, x, api.Op{Kind: api.Get}, 2)
	finish(t, x, 0)
	checkNoStep(t, x, 0)
	stands(t, x, 1, at(api.Enter, 1, 0))
	finish(t, x, 1)
	checkNoStep(t, x, 0)
	checkNoStep(t, x, 1)
	stands(t, x, 0, at(api.Done, 0, 0))
	stands(t, x, 1, at(api.Done, 0, 4))
	walk(t, x, 2, 0, pastInner...)
	checkNoStep(t, x, 3)
}

func TestStepOfASpentTree(t *testing.T) {
	x := spent(t, 1, 1, 1)
	for p := -1; p <= 257; p++ {
		if p != 255 {
			checkNoStep(t, x, p)
		}
	}
	finish(t, x, 255)
	checkNoStep(t, x, 255)
}

func grows(n *api.Node) { n.Inside++ }
func falls(n *api.Node) { n.Inside-- }

// Enter and Look at the root, with the gate open, of every operation.
func TestEnterAndLookAtTheRoot(t *testing.T) {
	for kind := 0; kind <= 1; kind++ {
		for _, o := range ops(kind) {
			inner := begin(t, kind, 1, 1, 1, 1, 0, 0, 2)
			spawn(t, inner, o, 0)
			takes(t, inner, 0, 5, at(api.Look, 1, 0), grows)
			takes(t, inner, 0, 5, at(api.Wide, 1, 0), nil)
			leaf := begin(t, kind, 1, 0, 1, 1, 0, 0, 2)
			spawn(t, leaf, o, 0)
			takes(t, leaf, 0, 5, at(api.Look, 1, 0), grows)
			takes(t, leaf, 0, 5, at(api.Ticket, 1, 0), nil)
		}
	}
}

// Enter and Look at a child, which may be inner or a leaf.
func TestEnterAndLookBelow(t *testing.T) {
	for kind := 0; kind <= 1; kind++ {
		for _, o := range ops(kind) {
			for start, want := range map[int]int{1: api.Ticket, 2: api.Wide} {
				x := begin(t, kind, 2, start, 1, 1, 0, 0, 2)
				spawn(t, x, o, 0)
				walk(t, x, 0, 0, pastInner...)
				child := 2
				if o.Kind == api.Get {
					child = 3
				}
				takes(t, x, 0, 0, at(api.Look, child, 0), grows)
				takes(t, x, 0, 0, at(want, child, 0), nil)
			}
		}
	}
}

// The way of a Fold or an Unfold to each target of a full tree, and no further:
// the nodes above it, from the root down.
func TestLookForEachTarget(t *testing.T) {
	ways := [][]int{2: {1}, 3: {1}, 4: {1, 2}, 5: {1, 2}, 6: {1, 3}, 7: {1, 3},
		8: {1, 2, 4}, 9: {1, 2, 4}, 10: {1, 2, 5}, 11: {1, 2, 5}, 12: {1, 3, 6}, 13: {1, 3, 6}, 14: {1, 3, 7}, 15: {1, 3, 7}}
	for target := 2; target <= 15; target++ {
		for _, kind := range []int{api.Fold, api.Unfold} {
			x := begin(t, 0, 4, 4, 1, 1, 0, 0, 1)
			spawn(t, x, api.Op{Kind: kind, Node: target}, 0)
			way := append(ways[target], target)
			for i := 0; i < len(way)-1; i++ {
				takes(t, x, 0, 0, at(api.Look, way[i], 0), grows)
				behind := api.Enter
				if way[i+1] == target {
					behind = api.Shut
				}
				takes(t, x, 0, 0, at(behind, way[i+1], 0), nil)
			}
		}
	}
}

// A leaf above the target: the target is not there.
func TestLookForATargetBelowALeaf(t *testing.T) {
	for _, kind := range []int{api.Fold, api.Unfold} {
		for kindOfTree := 0; kindOfTree <= 1; kindOfTree++ {
			x := begin(t, kindOfTree, 3, 0, 1, 1, 0, 0, 2)
			spawn(t, x, api.Op{Kind: kind, Node: 2}, 0)
			takes(t, x, 0, 0, at(api.Look, 1, 0), grows)
			takes(t, x, 0, 0, at(api.Leave, 1, api.NotThere), nil)
			takes(t, x, 0, 0, at(api.Done, 0, api.NotThere), falls)

			x = begin(t, kindOfTree, 4, 2, 1, 1, 0, 0, 2)
			spawn(t, x, api.Op{Kind: kind, Node: 13}, 0)
			walk(t, x, 0, 0, api.Look, api.Enter, api.Look, api.Enter)
			takes(t, x, 0, 0, at(api.Look, 6, 0), grows)
			takes(t, x, 0, 0, at(api.Leave, 6, api.NotThere), nil)
			takes(t, x, 0, 0, at(api.Leave, 3, api.NotThere), falls)
			takes(t, x, 0, 0, at(api.Leave, 1, api.NotThere), falls)
			takes(t, x, 0, 0, at(api.Done, 0, api.NotThere), falls)
		}
	}
}

// Inc and Put go where the toggle told, Get goes where it tells then. Each row
// is the kinds of operations that toggle, one after the other, and the children
// that they must go to.
func TestToggle(t *testing.T) {
	i, p, g := api.Inc, api.Put, api.Get
	for _, c := range []struct {
		tree            int
		kinds, children []int
	}{
		{api.Counter, []int{i, i, i, i, i}, []int{0, 1, 0, 1, 0}},
		{api.Pool, []int{p, p, p, p, p}, []int{0, 1, 0, 1, 0}},
		{api.Pool, []int{g, g, g, g, g}, []int{1, 0, 1, 0, 1}},
		{api.Pool, []int{p, g, p, g}, []int{0, 0, 0, 0}},
		{api.Pool, []int{g, p, g, p}, []int{1, 1, 1, 1}},
		{api.Pool, []int{p, p, g, g, g, p, p, p}, []int{0, 1, 1, 0, 1, 1, 0, 1}},
	} {
		x := begin(t, c.tree, 1, 1, 4, 1, 0, 0, 16)
		for k, kind := range c.kinds {
			spawn(t, x, api.Op{Kind: kind}, k)
			walk(t, x, k, 0, pastInner[:7]...)
			takes(t, x, k, 0, at(api.Enter, 2+c.children[k], 0), func(n *api.Node) { n.Toggle = (k + 1) % 2 })
		}
	}
}

// Each inner node has a toggle of its own.
func TestTogglesBelow(t *testing.T) {
	x := begin(t, 0, 3, 3, 1, 1, 0, 0, 16)
	for k, leaf := range []int{8, 12, 10, 14, 9, 13, 11, 15, 8, 12} {
		spawn(t, x, api.Op{Kind: api.Inc}, k)
		walk(t, x, k, 0, pastInner...)
		walk(t, x, k, 0, pastInner...)
		walk(t, x, k, 0, pastInner...)
		stands(t, x, k, at(api.Enter, leaf, 0))
	}
	for i, toggle := range []int{0, 1, 1, 1, 0, 1, 0} {
		if n := nodeOf(t, x, i+1); n.Toggle != toggle {
			t.Errorf("P6: node %+v, want the toggle %d", n, toggle)
		}
	}
}

// Leave, from a leaf of the greatest depth up, at each node by one step.
func TestLeave(t *testing.T) {
	x := begin(t, 0, 4, 4, 1, 1, 0, 0, 2)
	spawn(t, x, api.Op{Kind: api.Inc}, 0)
	spawn(t, x, api.Op{Kind: api.Inc}, 1)
	for p := 0; p < 2; p++ {
		for range 4 {
			walk(t, x, p, 0, pastInner...)
		}
		walk(t, x, p, 0, api.Look, api.Ticket, api.Leave)
	}
	for _, v := range []int{8, 4, 2, 1} {
		takes(t, x, 0, 0, at(api.Leave, v, 0), falls)
	}
	takes(t, x, 0, 0, at(api.Done, 0, 0), falls)
	for _, v := range []int{12, 6, 3, 1} {
		takes(t, x, 1, 0, at(api.Leave, v, 1), falls)
	}
	takes(t, x, 1, 0, at(api.Done, 0, 1), falls)
}

// A draw is looked at in Wide alone: all other steps of a process go on the
// same, whatever the draw.
func TestDrawsElsewhere(t *testing.T) {
	for _, kind := range []int{api.Put, api.Get} {
		for _, draw := range append(far(), -1, 1, 2, 3) {
			x := begin(t, 1, 2, 2, 2, 4, 1, 1, 2)
			y := begin(t, 1, 2, 2, 2, 4, 1, 1, 2)
			spawn(t, x, api.Op{Kind: kind, Val: 9}, 0)
			spawn(t, y, api.Op{Kind: kind, Val: 9}, 0)
			for range 40 {
				d := draw
				if q, _ := x.Proc(0); q.Phase == api.Wide {
					d = 0
				}
				x.Step(0, 0)
				y.Step(0, d)
				same(t, "P6", look(y), look(x))
			}
		}
	}
}
