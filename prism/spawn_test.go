package prism

import (
	"math"
	"testing"

	"prism/api"
)

// good is an operation that every tree of the kind has.
func good(kind int) api.Op {
	if kind == api.Counter {
		return api.Op{Kind: api.Inc}
	}
	return api.Op{Kind: api.Put, Val: 5}
}

func TestSpawnOfEachKind(t *testing.T) {
	has := [2][5]bool{{true, false, false, true, true}, {false, true, true, true, true}}
	for kind := 0; kind <= 1; kind++ {
		for k := -3; k <= 8; k++ {
			x := begin(t, kind, 2, 1, 1, 1, 0, 0, 1)
			o := api.Op{Kind: k, Val: 3, Node: 2}
			if k < 0 || k > 4 || !has[kind][k] {
				refuse(t, x, o, api.ErrOp)
				continue
			}
			spawn(t, x, o, 0)
			same(t, "P4", seen{procs: look(x).procs}, seen{procs: []api.Proc{{Phase: api.Enter, Node: 1}}})
		}
		for _, k := range far() {
			refuse(t, begin(t, kind, 2, 1, 1, 1, 0, 0, 1), api.Op{Kind: k, Val: 3, Node: 2}, api.ErrOp)
		}
	}
}

// Which nodes may be folded hangs on Depth, not on the nodes that are there.
func TestSpawnOfEachTarget(t *testing.T) {
	for depth := 0; depth <= 4; depth++ {
		for start := 0; start <= depth; start++ {
			for v := -40; v <= 40; v++ {
				checkTarget(t, depth, start, v)
			}
			for _, v := range far() {
				checkTarget(t, depth, start, v)
			}
		}
	}
}

func checkTarget(t *testing.T, depth, start, v int) {
	t.Helper()
	last := []int{0, 1, 3, 7, 15}[depth]
	for _, kind := range []int{api.Counter, api.Pool} {
		for _, k := range []int{api.Fold, api.Unfold} {
			x := begin(t, kind, depth, start, 1, 1, 0, 0, 1)
			o := api.Op{Kind: k, Node: v, Val: math.MinInt}
			if v < 1 || v > last {
				refuse(t, x, o, api.ErrOp)
				continue
			}
			want := api.Proc{Phase: api.Enter, Node: 1}
			if v == 1 {
				want.Phase = api.Shut
			}
			spawn(t, x, o, 0)
			if q, e := x.Proc(0); q != want || e != api.OK {
				t.Errorf("P4: of %+v: Proc(0) = %+v, %d, want %+v", o, q, e, want)
			}
		}
	}
}

// What an operation does not look at must not matter: above all the Node 1 of
// one that changes nothing.
func TestSpawnLooksAtNoMore(t *testing.T) {
	for _, k := range append(far(), -1, 0, 1, 2, 3) {
		for _, c := range []struct{ kind, op int }{{api.Counter, api.Inc}, {api.Pool, api.Put}, {api.Pool, api.Get}} {
			x := begin(t, c.kind, 2, 2, 1, 1, 0, 0, 1)
			spawn(t, x, api.Op{Kind: c.op, Val: k, Node: k}, 0)
			if q, e := x.Proc(0); q != (api.Proc{Phase: api.Enter, Node: 1}) || e != api.OK {
				t.Errorf("P4: operation %d with %d: Proc(0) = %+v, %d", c.op, k, q, e)
			}
		}
	}
}

// Nobody has announced himself by being begun: no node changes.
func TestSpawnChangesNoNode(t *testing.T) {
	x := begin(t, 1, 3, 2, 1, 2, 1, 1, 16)
	ahead := look(x).nodes
	for i, o := range []api.Op{{Kind: api.Put, Val: 7}, {Kind: api.Get}, {Kind: api.Fold, Node: 1}, {Kind: api.Unfold, Node: 1}, {Kind: api.Fold, Node: 7}, {Kind: api.Unfold, Node: 4}} {
		spawn(t, x, o, i)
		same(t, "P4", seen{nodes: look(x).nodes}, seen{nodes: ahead})
	}
}

func TestSpawnFull(t *testing.T) {
	for kind := 0; kind <= 1; kind++ {
		for procs := 1; procs <= 16; procs++ {
			x := begin(t, kind, 1, 1, 1, 1, 0, 0, procs)
			for p := 0; p < procs; p++ {
				spawn(t, x, good(kind), p)
			}
			refuse(t, x, good(kind), api.ErrFull)
			refuse(t, x, api.Op{Kind: api.Fold, Node: 1}, api.ErrFull)
			refuse(t, x, api.Op{Kind: api.Fold, Node: 2}, api.ErrOp)
			refuse(t, x, api.Op{Kind: -1}, api.ErrOp)
			finish(t, x, procs/2)
			spawn(t, x, api.Op{Kind: api.Unfold, Node: 1}, procs)
			refuse(t, x, good(kind), api.ErrFull)
		}
	}
}

// Whoever is not Done is live, whatever its phase.
func TestSpawnFullOfEachPhase(t *testing.T) {
	for phase := api.Enter; phase <= api.Leave; phase++ {
		x := begin(t, 0, 1, 1, 1, 1, 0, 0, 1)
		spawn(t, x, good(api.Counter), 0)
		x.procs[0].phase = phase
		refuse(t, x, good(api.Counter), api.ErrFull)
	}
}

// spent is a tree where MaxSpawns processes were begun, the last of them live.
func spent(t *testing.T, kind, procs, live int) *Tree {
	t.Helper()
	x := begin(t, kind, 1, 1, 1, 1, 0, 0, procs)
	for p := 0; p < 256; p++ {
		o := good(kind)
		if kind == api.Pool && p%2 == 1 {
			o = api.Op{Kind: api.Get} // it makes room again
		}
		spawn(t, x, o, p)
		if p < 256-live {
			finish(t, x, p)
		}
	}
	return x
}

func TestSpawnSpent(t *testing.T) {
	for kind := 0; kind <= 1; kind++ {
		for _, c := range []struct{ procs, live int }{{1, 0}, {1, 1}, {16, 0}, {16, 15}, {16, 16}} {
			x := spent(t, kind, c.procs, c.live)
			refuse(t, x, good(kind), api.ErrSpent)
			refuse(t, x, api.Op{Kind: api.Unfold, Node: 1}, api.ErrSpent)
			refuse(t, x, api.Op{Kind: api.Unfold, Node: 2}, api.ErrOp)
			refuse(t, x, api.Op{Kind: 99}, api.ErrOp)
		}
	}
}

// An error is no process: only what was begun counts.
func TestSpawnErrorsAreNotCounted(t *testing.T) {
	x := begin(t, 1, 1, 1, 1, 1, 0, 0, 1)
	for i := 0; i < 1000; i++ {
		refuse(t, x, api.Op{Kind: api.Inc}, api.ErrOp)
	}
	spawn(t, x, api.Op{Kind: api.Put}, 0)
	for i := 0; i < 1000; i++ {
		refuse(t, x, api.Op{Kind: api.Get}, api.ErrFull)
	}
	finish(t, x, 0)
	spawn(t, x, api.Op{Kind: api.Get}, 1)
}

func TestProc(t *testing.T) {
	x := begin(t, 1, 2, 1, 1, 1, 0, 0, 3)
	checkNoProc(t, x, 0)
	for p, o := range []api.Op{{Kind: api.Put, Val: 8}, {Kind: api.Fold, Node: 1}, {Kind: api.Get, Val: 9}} {
		spawn(t, x, o, p)
		checkNoProc(t, x, p+1)
	}
	x.procs[0] = process{op: x.procs[0].op, phase: api.Store, node: 3}
	x.procs[1] = process{op: x.procs[1].op, phase: api.Done, val: api.NotEmpty}
	x.procs[2] = process{op: x.procs[2].op, phase: api.Leave, node: 2, val: math.MinInt}
	want := []api.Proc{{Phase: api.Store, Node: 3}, {Phase: api.Done, Val: api.NotEmpty}, {Phase: api.Leave, Node: 2, Val: math.MinInt}}
	same(t, "P5", seen{procs: look(x).procs}, seen{procs: want})
	checkNoProc(t, x, 3)
}

// checkNoProc checks the numbers below 0 and those from count on.
func checkNoProc(t *testing.T, x *Tree, count int) {
	t.Helper()
	for _, p := range append(far(), -2, -1, count, count+1, 16, 255, 256, 257) {
		if q, e := x.Proc(p); q != (api.Proc{}) || e != api.ErrProc {
			t.Errorf("P5: Proc(%d) of %d processes = %+v, %d, want noughts, 5", p, count, q, e)
		}
	}
}

func TestProcOfASpentTree(t *testing.T) {
	x := spent(t, 0, 2, 1)
	for p := 0; p < 255; p++ {
		if q, e := x.Proc(p); q != at(api.Done, 0, p) || e != api.OK {
			t.Errorf("P5: Proc(%d) = %+v, %d, want one that is Done", p, q, e)
		}
	}
	if q, e := x.Proc(255); q != (api.Proc{Phase: api.Enter, Node: 1}) || e != api.OK {
		t.Errorf("P5: Proc(255) = %+v, %d", q, e)
	}
	for _, p := range []int{-1, 256, 257} {
		if q, e := x.Proc(p); q != (api.Proc{}) || e != api.ErrProc {
			t.Errorf("P5: Proc(%d) = %+v, %d", p, q, e)
		}
	}
}
