package prism

import (
	"testing"

	"prism/api"
)

func shuts(n *api.Node) { n.Shut = true }
func opens(n *api.Node) { n.Shut = false }

// fits is a tree in which the operation o finds its target as it wants it: a
// leaf for an Unfold, an inner node above two leaves for a Fold.
func fits(t *testing.T, kind int, o api.Op, drain int) *Tree {
	t.Helper()
	start, _ := place(o.Node)
	if o.Kind == api.Fold {
		start++
	}
	return begin(t, kind, 4, start, 1, 2, 3, drain, 16)
}

// contrary is the Unfold of a Fold, and the Fold of an Unfold.
func contrary(o api.Op) api.Op {
	return api.Op{Kind: api.Fold + api.Unfold - o.Kind, Node: o.Node}
}

// both are the Fold and the Unfold of each node from 1 to most.
func both(most int) []api.Op {
	var list []api.Op
	for v := 1; v <= most; v++ {
		list = append(list, fold(v), unfold(v))
	}
	return list
}

// comes lets a new process, number p, announce itself at the node v, below
// nodes with open gates, and no more: it wants to go on below v.
func comes(t *testing.T, x *Tree, p, v int) {
	t.Helper()
	spawn(t, x, fold(2*v), p)
	for {
		walk(t, x, p, 0, api.Look)
		if q, _ := x.Proc(p); q.Node == v {
			return
		}
		walk(t, x, p, 0, api.Enter)
	}
}

func TestShut(t *testing.T) {
	for kind := 0; kind <= 1; kind++ {
		for _, o := range both(15) {
			x := fits(t, kind, o, 2)
			approach(t, x, 0, o)
			takes(t, x, 0, 0, at(api.Drain, o.Node, 0), shuts)
		}
	}
}

// A Fold of a leaf and an Unfold of an inner node turn back: at the root they
// are Done at once, and no Inside falls in that step.
func TestShutOfTheOtherKind(t *testing.T) {
	for kind := 0; kind <= 1; kind++ {
		for _, o := range both(15) {
			x := fits(t, kind, contrary(o), 2)
			approach(t, x, 0, o)
			takes(t, x, 0, 0, above(o.Node, api.NotThere), nil)
			for v := o.Node / 2; v > 0; v /= 2 {
				takes(t, x, 0, 0, above(v, api.NotThere), falls)
			}
			checkNoStep(t, x, 0)
		}
	}
}

// A gate that another has shut, be that one in Drain, in Change or in Reopen.
func TestShutBehindAnother(t *testing.T) {
	for _, o := range both(3) {
		for _, second := range []api.Op{o, contrary(o)} {
			for _, phases := range [][]int{{api.Drain}, {api.Drain, api.Change}, {api.Drain, api.Reopen}} {
				x := fits(t, 0, o, 0)
				approach(t, x, 0, o)
				approach(t, x, 1, second)
				if phases[len(phases)-1] == api.Reopen {
					comes(t, x, 2, o.Node)
				}
				walk(t, x, 0, 0, phases...)
				takes(t, x, 1, 0, above(o.Node, api.NotThere), nil)
				if n := nodeOf(t, x, o.Node); !n.Shut {
					t.Errorf("P9: another opened the gate of %+v", n)
				}
				finish(t, x, 0)
				if n := nodeOf(t, x, o.Node); n.Shut {
					t.Errorf("P9: the gate of %+v was not opened", n)
				}
			}
		}
	}
}

// Of two Folds (or Unfolds) of one node the second comes when the first has
// changed it: it is of the other kind by then. One of the other kind can go on.
func TestShutBehindAChange(t *testing.T) {
	for _, o := range both(15) {
		x := fits(t, 1, o, 0)
		approach(t, x, 0, o)
		approach(t, x, 1, o)
		approach(t, x, 2, contrary(o))
		finish(t, x, 0)
		stands(t, x, 0, at(api.Done, 0, api.Changed))
		takes(t, x, 1, 0, above(o.Node, api.NotThere), nil)
		takes(t, x, 2, 0, at(api.Drain, o.Node, 0), shuts)
		finish(t, x, 2)
		stands(t, x, 2, at(api.Done, 0, api.Changed))
	}
}

// Gates above and beside the target do not matter to one that is at it; what
// lies above waits for it.
func TestShutBelowAGate(t *testing.T) {
	x := begin(t, 0, 2, 2, 1, 1, 0, 16, 4)
	approach(t, x, 0, fold(2))
	approach(t, x, 1, fold(3))
	approach(t, x, 2, fold(1))
	takes(t, x, 2, 0, at(api.Drain, 1, 0), shuts)
	takes(t, x, 1, 0, at(api.Drain, 3, 0), shuts)
	takes(t, x, 0, 0, at(api.Drain, 2, 0), shuts)
	takes(t, x, 0, 0, at(api.Change, 2, 0), nil)
	takes(t, x, 2, 0, at(api.Drain, 1, 0), nil)
	becomes(t, x, 0, leafNode(2, 0, 0))
	takes(t, x, 0, 0, at(api.Done, 0, api.Changed), falls)
	takes(t, x, 2, 0, at(api.Drain, 1, 0), nil)
	finish(t, x, 1)
	takes(t, x, 2, 0, at(api.Change, 1, 0), nil)
	becomes(t, x, 2, leafNode(1, 0, 0))
}

// Nobody is inside: no patience is needed, and none is in the way.
func TestDrainOfAnEmptyNode(t *testing.T) {
	for drain := 0; drain <= 16; drain++ {
		for _, o := range both(3) {
			x := fits(t, 1, o, drain)
			approach(t, x, 0, o)
			walk(t, x, 0, 0, api.Drain)
			takes(t, x, 0, 0, at(api.Change, o.Node, 0), nil)
		}
	}
}

// Somebody stays inside: the Fold or Unfold looks Drain times and once more.
func TestDrainRunsOut(t *testing.T) {
	for drain := 0; drain <= 16; drain++ {
		for _, o := range both(7) {
			x := fits(t, 0, o, drain)
			comes(t, x, 0, o.Node)
			comes(t, x, 1, o.Node)
			approach(t, x, 2, o)
			walk(t, x, 2, 0, api.Drain)
			for range drain {
				takes(t, x, 2, 0, at(api.Drain, o.Node, 0), nil)
			}
			takes(t, x, 2, 0, at(api.Reopen, o.Node, 0), nil)
			takes(t, x, 2, 0, above(o.Node, api.NotEmpty), opens)
			for v := o.Node / 2; v > 0; v /= 2 {
				takes(t, x, 2, 0, above(v, api.NotEmpty), falls)
			}
			checkNoStep(t, x, 2)
			finish(t, x, 0)
			do(t, x, 3, o, api.NotEmpty)
			finish(t, x, 1)
			do(t, x, 4, o, api.Changed)
		}
	}
}

// The last one leaves when the patience is just at its end: that is in time.
func TestDrainInTime(t *testing.T) {
	for drain := 0; drain <= 16; drain++ {
		for _, o := range both(3) {
			x := fits(t, 0, o, drain)
			comes(t, x, 0, o.Node)
			approach(t, x, 1, o)
			walk(t, x, 1, 0, api.Drain)
			for range drain {
				takes(t, x, 1, 0, at(api.Drain, o.Node, 0), nil)
			}
			takes(t, x, 0, 0, at(api.Back, o.Node, 0), nil)
			takes(t, x, 0, 0, at(api.Enter, o.Node, 0), falls)
			takes(t, x, 1, 0, at(api.Change, o.Node, 0), nil)
		}
	}
}

// The last one leaves when the patience is at its end already: it is given up.
func TestReopenOfAnEmptyNode(t *testing.T) {
	for _, o := range both(3) {
		x := fits(t, 0, o, 1)
		comes(t, x, 0, o.Node)
		approach(t, x, 1, o)
		walk(t, x, 1, 0, api.Drain, api.Drain, api.Reopen)
		walk(t, x, 0, 0, api.Back, api.Enter)
		takes(t, x, 1, 0, above(o.Node, api.NotEmpty), opens)
	}
}

// A process in Enter at the target is not inside; one that comes when nobody
// was inside is, but is sent back: the change goes on, and Inside stays.
func TestChangeBesideSomebodyAtTheGate(t *testing.T) {
	for _, o := range both(3) {
		x := fits(t, 0, o, 0)
		comes(t, x, 0, o.Node)
		comes(t, x, 1, o.Node)
		comes(t, x, 2, o.Node)
		approach(t, x, 3, o)
		walk(t, x, 3, 0, api.Drain)
		for p := range 3 {
			walk(t, x, p, 0, api.Back, api.Enter)
		}
		walk(t, x, 3, 0, api.Change)
		walk(t, x, 0, 0, api.Look)
		walk(t, x, 1, 0, api.Look, api.Back)
		if o.Kind == api.Fold {
			becomes(t, x, 3, leafNode(o.Node, 2, 0))
		} else {
			becomes(t, x, 3, innerNode(o.Node, 2, 0, 2), leafNode(2*o.Node, 0, 0), leafNode(2*o.Node+1, 0, 0))
		}
	}
}

// Who comes to a shut gate goes back, as often as it comes, be the node inner
// or a leaf, be it the root or below; and goes on once the gate is open again.
func TestBackFromAGate(t *testing.T) {
	for kind := 0; kind <= 1; kind++ {
		for _, o := range all(kind, 4) {
			for start := 0; start <= 2; start++ {
				x := begin(t, kind, 3, start, 1, 1, 0, 16, 4)
				holder := fold(1)
				if start == 0 {
					holder = unfold(1)
				}
				spawn(t, x, o, 0)
				takes(t, x, 0, 0, at(api.Look, 1, 0), grows)
				approach(t, x, 1, holder)
				walk(t, x, 1, 0, api.Drain)
				for range 3 {
					takes(t, x, 0, 0, at(api.Back, 1, 0), nil)
					takes(t, x, 1, 0, at(api.Drain, 1, 0), nil)
					takes(t, x, 0, 0, at(api.Enter, 1, 0), falls)
					takes(t, x, 0, 0, at(api.Look, 1, 0), grows)
				}
				for range 13 {
					walk(t, x, 1, 0, api.Drain)
				}
				walk(t, x, 1, 0, api.Reopen)
				takes(t, x, 0, 0, at(api.Back, 1, 0), nil)
				takes(t, x, 1, 0, at(api.Done, 0, api.NotEmpty), opens)
				takes(t, x, 0, 0, at(api.Enter, 1, 0), falls)
				takes(t, x, 0, 0, at(api.Look, 1, 0), grows)
				goesOn(t, x, o, start > 0)
			}
		}
	}
}

// goesOn checks that process 0, which does o and is in Look at the root, whose
// gate is open, goes on as it does at an inner node or at a leaf.
func goesOn(t *testing.T, x *Tree, o api.Op, inner bool) {
	t.Helper()
	want := at(api.Ticket, 1, 0)
	switch {
	case changes(o) && inner:
		want = at(api.Enter, 2, 0)
	case changes(o):
		want = at(api.Leave, 1, api.NotThere)
	case inner:
		want = at(api.Wide, 1, 0)
	}
	takes(t, x, 0, 0, want, nil)
}

// Who is sent back while a node is folded or unfolded finds the node that has
// become of it.
func TestBackBesideAChange(t *testing.T) {
	for kind := 0; kind <= 1; kind++ {
		for _, o := range all(kind, 4) {
			for start := 0; start <= 1; start++ {
				for _, way := range [][]int{{}, {api.Look}, {api.Look, api.Back}, {api.Look, api.Back, api.Enter}} {
					x := begin(t, kind, 3, start, 1, 1, 0, 0, 4)
					spawn(t, x, o, 0)
					approach(t, x, 1, []api.Op{unfold(1), fold(1)}[start])
					walk(t, x, 1, 0, api.Drain, api.Change)
					walk(t, x, 0, 0, way...)
					walk(t, x, 1, 0, api.Done)
					if q, _ := x.Proc(0); q.Phase == api.Back {
						takes(t, x, 0, 0, at(api.Enter, 1, 0), falls)
					}
					if q, _ := x.Proc(0); q.Phase == api.Enter {
						takes(t, x, 0, 0, at(api.Look, 1, 0), grows)
					}
					goesOn(t, x, o, start == 0)
				}
			}
		}
	}
}

// One inside, behind Look, is not sent back, and walks on at the node and below
// it; the gate that is shut keeps the others out until it has left.
func TestGateBehindLook(t *testing.T) {
	x := begin(t, 0, 2, 2, 1, 1, 0, 16, 4)
	inc := api.Op{Kind: api.Inc}
	spawn(t, x, inc, 0)
	takes(t, x, 0, 0, at(api.Look, 1, 0), grows)
	takes(t, x, 0, 0, at(api.Wide, 1, 0), nil)
	approach(t, x, 1, fold(1))
	walk(t, x, 1, 0, api.Drain)
	walk(t, x, 0, 0, pastInner[2:]...)
	walk(t, x, 0, 0, pastInner...)
	stands(t, x, 0, at(api.Enter, 4, 0))
	spawn(t, x, inc, 2)
	walk(t, x, 2, 0, api.Look, api.Back, api.Enter)
	finish(t, x, 0)
	stands(t, x, 0, at(api.Done, 0, 0))
	takes(t, x, 1, 0, at(api.Change, 1, 0), nil)
	takes(t, x, 1, 0, at(api.Done, 0, api.NotLeaves), opens)
	finish(t, x, 2)
	stands(t, x, 2, at(api.Done, 0, 1))
}

// The gate of a node below the root: who has passed the root is sent back
// there, who goes to its sister is not.
func TestGateBelow(t *testing.T) {
	x := begin(t, 0, 2, 2, 1, 1, 0, 2, 4)
	inc := api.Op{Kind: api.Inc}
	approach(t, x, 0, fold(2))
	walk(t, x, 0, 0, api.Drain)
	for p := 1; p <= 2; p++ {
		spawn(t, x, inc, p)
		walk(t, x, p, 0, pastInner...)
	}
	takes(t, x, 1, 0, at(api.Look, 2, 0), grows)
	takes(t, x, 1, 0, at(api.Back, 2, 0), nil)
	finish(t, x, 2)
	stands(t, x, 2, at(api.Done, 0, 1))
	takes(t, x, 0, 0, at(api.Drain, 2, 0), nil)
	takes(t, x, 1, 0, at(api.Enter, 2, 0), falls)
	takes(t, x, 0, 0, at(api.Change, 2, 0), nil)
	becomes(t, x, 0, leafNode(2, 0, 0))
	takes(t, x, 1, 0, at(api.Look, 2, 0), grows)
	takes(t, x, 1, 0, at(api.Ticket, 2, 0), nil)
	takes(t, x, 1, 0, at(api.Leave, 2, 0), func(n *api.Node) { n.Puts++ })
}

// A Fold or an Unfold on its way to a deep target comes to a gate that is shut,
// and then to a leaf: its target is not there any more.
func TestTargetFoldedAway(t *testing.T) {
	for _, o := range []api.Op{fold(4), unfold(4), fold(5), unfold(5), fold(9), unfold(11)} {
		x := begin(t, 0, 4, 2, 1, 1, 0, 1, 4)
		spawn(t, x, o, 0)
		walk(t, x, 0, 0, api.Look, api.Enter)
		approach(t, x, 1, fold(2))
		walk(t, x, 1, 0, api.Drain)
		takes(t, x, 0, 0, at(api.Look, 2, 0), grows)
		takes(t, x, 0, 0, at(api.Back, 2, 0), nil)
		takes(t, x, 1, 0, at(api.Drain, 2, 0), nil)
		takes(t, x, 0, 0, at(api.Enter, 2, 0), falls)
		takes(t, x, 1, 0, at(api.Change, 2, 0), nil)
		becomes(t, x, 1, leafNode(2, 0, 0))
		takes(t, x, 0, 0, at(api.Look, 2, 0), grows)
		takes(t, x, 0, 0, at(api.Leave, 2, api.NotThere), nil)
		takes(t, x, 0, 0, at(api.Leave, 1, api.NotThere), falls)
		takes(t, x, 0, 0, at(api.Done, 0, api.NotThere), falls)
	}
}
