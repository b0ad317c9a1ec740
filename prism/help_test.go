package prism

import (
	"math"
	"reflect"
	"slices"
	"testing"

	"prism/api"
)

// conf is a configuration by its eight numbers.
func conf(n ...int) api.Config {
	return api.Config{Kind: n[0], Depth: n[1], Start: n[2], Slots: n[3], Width: n[4], Spin: n[5], Drain: n[6], Procs: n[7]}
}

// begin is a new tree of a configuration that must be one.
func begin(t *testing.T, n ...int) *Tree {
	t.Helper()
	x, e := New(conf(n...))
	if x == nil || e != api.OK {
		t.Fatalf("P3: New(%v) = %v, %d", n, x, e)
	}
	return x
}

// spawn begins a process that must be begun, as the number want.
func spawn(t *testing.T, x *Tree, o api.Op, want int) {
	t.Helper()
	if p, e := x.Spawn(o); p != want || e != api.OK {
		t.Fatalf("P4: Spawn(%+v) = %d, %d, want %d, 0", o, p, e, want)
	}
}

// refuse checks that a Spawn answers an error, 0 beside it, and changes nothing.
func refuse(t *testing.T, x *Tree, o api.Op, want api.Errno) {
	t.Helper()
	ahead := look(x)
	if p, e := x.Spawn(o); p != 0 || e != want {
		t.Errorf("P4: Spawn(%+v) of %+v = %d, %d, want 0, %d", o, x.conf, p, e, want)
	}
	if behind := look(x); !reflect.DeepEqual(ahead, behind) {
		t.Errorf("P1: Spawn(%+v) answered an error and changed %+v to %+v", o, ahead, behind)
	}
}

// finish lets a process take steps until it is Done, as it must be soon when
// nobody else takes one.
func finish(t *testing.T, x *Tree, p int) {
	t.Helper()
	for range 200 {
		ph, e := x.Step(p, 0)
		if e != api.OK {
			t.Fatalf("P6: Step(%d) of one that is live = %d, %d", p, ph, e)
		}
		if ph == api.Done {
			return
		}
	}
	t.Fatalf("P6: process %d is not Done behind 200 steps", p)
}

// walk lets a process take steps, all with one draw: the phases behind them
// must be these.
func walk(t *testing.T, x *Tree, p, draw int, phases ...int) {
	t.Helper()
	for i, want := range phases {
		if ph, e := x.Step(p, draw); ph != want || e != api.OK {
			t.Fatalf("step %d of process %d: phase %d, %d, want %d", i, p, ph, e, want)
		}
	}
}

// takes lets a process take a step. Behind it the process must stand where want
// says, and the node where it stood must be as edit makes it; all else must be
// as it was (P16). An edit that is nil changes nothing.
func takes(t *testing.T, x *Tree, p, draw int, want api.Proc, edit func(n *api.Node)) {
	t.Helper()
	wanted := look(x)
	at := wanted.procs[p].Node
	wanted.procs[p] = want
	for i := range wanted.nodes {
		if wanted.nodes[i].Num == at && edit != nil {
			edit(&wanted.nodes[i])
		}
	}
	if ph, e := x.Step(p, draw); ph != want.Phase || e != api.OK {
		t.Errorf("Step(%d, %d) = %d, %d, want %d, 0", p, draw, ph, e, want.Phase)
	}
	same(t, "a step", look(x), wanted)
}

// at is where a process stands.
func at(phase, node, val int) api.Proc {
	return api.Proc{Phase: phase, Node: node, Val: val}
}

// stands checks where a process stands.
func stands(t *testing.T, x *Tree, p int, want api.Proc) {
	t.Helper()
	if q, e := x.Proc(p); q != want || e != api.OK {
		t.Errorf("Proc(%d) = %+v, %d, want %+v", p, q, e, want)
	}
}

// nodeOf is what Nodes tells of a node, which must be there.
func nodeOf(t *testing.T, x *Tree, v int) api.Node {
	t.Helper()
	for _, n := range x.Nodes() {
		if n.Num == v {
			return n
		}
	}
	t.Fatalf("P5: node %d is not there", v)
	return api.Node{}
}

// seen is all that can be seen of a tree.
type seen struct {
	nodes []api.Node
	procs []api.Proc
}

// look tells all that can be seen of a tree, in lists of its own. A list that
// is empty is nil here, as an empty list may come out either way.
func look(x *Tree) seen {
	var s seen
	for _, n := range x.Nodes() {
		n.Waiting = append([]int(nil), n.Waiting...)
		n.Items = append([]int(nil), n.Items...)
		s.nodes = append(s.nodes, n)
	}
	for p := 0; ; p++ {
		q, e := x.Proc(p)
		if e != api.OK {
			return s
		}
		s.procs = append(s.procs, q)
	}
}

// far are numbers far below 0 and very great ones.
func far() []int {
	return []int{math.MinInt, math.MinInt + 1, math.MinInt32 - 1, math.MinInt32, -1 << 40, -1000, 1000, math.MaxInt32, math.MaxInt32 + 1, 1 << 40, 1 << 62, math.MaxInt - 1, math.MaxInt}
}

// same checks that two looks at trees tell the same.
func same(t *testing.T, promise string, got, want seen) {
	t.Helper()
	if !reflect.DeepEqual(got, want) {
		t.Errorf("%s: got %+v, want %+v", promise, got, want)
	}
}

func fold(v int) api.Op { return api.Op{Kind: api.Fold, Node: v} }

func unfold(v int) api.Op { return api.Op{Kind: api.Unfold, Node: v} }

// do lets a new process, number p, do its operation to the end while nobody
// else takes a step: its Val must be this.
func do(t *testing.T, x *Tree, p int, o api.Op, val int) {
	t.Helper()
	spawn(t, x, o, p)
	finish(t, x, p)
	stands(t, x, p, at(api.Done, 0, val))
}

// approach lets a new Fold or Unfold, number p, walk to its target, past nodes
// whose gates are open.
func approach(t *testing.T, x *Tree, p int, o api.Op) {
	t.Helper()
	spawn(t, x, o, p)
	depth, _ := place(o.Node)
	for d := 1; d < depth; d++ {
		walk(t, x, p, 0, api.Look, api.Enter)
	}
	if depth > 0 {
		walk(t, x, p, 0, api.Look, api.Shut)
	}
	stands(t, x, p, at(api.Shut, o.Node, 0))
}

// above is where a process stands that has turned from node v to its parent.
func above(v, val int) api.Proc {
	if v == 1 {
		return at(api.Done, 0, val)
	}
	return at(api.Leave, v/2, val)
}

// innerNode and leafNode are what Nodes tells of a node that a change has made.
func innerNode(v, inside, toggle, slots int) api.Node {
	n := api.Node{Num: v, Inner: true, Inside: inside, Toggle: toggle, Width: 1}
	n.Depth, n.Rank = place(v)
	for range slots {
		n.Waiting = append(n.Waiting, api.None)
	}
	return n
}

func leafNode(v, inside, puts int, items ...int) api.Node {
	n := api.Node{Num: v, Inside: inside, Puts: puts}
	n.Depth, n.Rank = place(v)
	n.Items = append(n.Items, items...)
	return n
}

// becomes lets a process take the step of Change. Behind it the process must
// have turned to the parent with Changed, and in the place of its node and that
// one's children there must be these nodes; all else must be as it was.
func becomes(t *testing.T, x *Tree, p int, list ...api.Node) {
	t.Helper()
	wanted := look(x)
	v := wanted.procs[p].Node
	wanted.procs[p] = above(v, api.Changed)
	wanted.nodes = slices.DeleteFunc(wanted.nodes, func(n api.Node) bool { return n.Num == v || n.Num/2 == v })
	wanted.nodes = append(wanted.nodes, list...)
	slices.SortFunc(wanted.nodes, func(a, b api.Node) int { return a.Num - b.Num })
	if ph, e := x.Step(p, 0); ph != wanted.procs[p].Phase || e != api.OK {
		t.Errorf("P9: Step(%d) = %d, %d, want %d, 0", p, ph, e, wanted.procs[p].Phase)
	}
	same(t, "P9", look(x), wanted)
}
