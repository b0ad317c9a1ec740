package prism

import (
	"slices"
	"testing"

	"prism/api"
)

// rounds lets every live process take one step in each round, by rising
// numbers, with the draws of the document's rounds, by single calls of Step; it
// tells how many are live behind them.
func rounds(t *testing.T, x *Tree, often, draw int) int {
	t.Helper()
	for k := range often {
		for p, q := range look(x).procs {
			if q.Phase == api.Done {
				continue
			}
			if ph, e := x.Step(p, modulo64(draw, 12)+k+p); e != api.OK {
				t.Fatalf("P6: Step(%d) = %d, %d", p, ph, e)
			}
		}
	}
	live := 0
	for _, q := range look(x).procs {
		if q.Phase != api.Done {
			live++
		}
	}
	return live
}

func checkLive(t *testing.T, got, want int) {
	t.Helper()
	if got != want {
		t.Errorf("%d processes are live, want %d", got, want)
	}
}

// leaf checks what a leaf holds.
func leaf(t *testing.T, x *Tree, v, puts, gets int, items ...int) {
	t.Helper()
	if n := nodeOf(t, x, v); n.Inner || n.Puts != puts || n.Gets != gets || !slices.Equal(n.Items, items) {
		t.Errorf("P8: %+v, want a leaf with Puts %d, Gets %d, items %v", n, puts, gets, items)
	}
}

// The document's examples, call by call and step by step; but the one that only
// a script can be. (By Play they are in play_test.go.)

func TestExampleOneLeaf(t *testing.T) {
	x := begin(t, 0, 0, 0, 1, 1, 0, 0, 1)
	inc := api.Op{Kind: api.Inc}
	spawn(t, x, inc, 0)
	refuse(t, x, inc, api.ErrFull)
	walk(t, x, 0, 0, 1, 12, 19, 20)
	checkNoStep(t, x, 0)
	stands(t, x, 0, at(20, 0, 0))
	spawn(t, x, inc, 1)
	leaf(t, x, 1, 1, 0)
}

func TestExampleOneInc(t *testing.T) {
	x := begin(t, 0, 1, 1, 1, 1, 0, 0, 2)
	spawn(t, x, api.Op{Kind: api.Inc}, 0)
	checkLive(t, rounds(t, x, 12, 0), 1)
	stands(t, x, 0, at(19, 1, 0))
	checkLive(t, rounds(t, x, 1, 0), 0)
	stands(t, x, 0, at(20, 0, 0))
	leaf(t, x, 2, 1, 0)
	leaf(t, x, 3, 0, 0)
}

func TestExampleThreeIncs(t *testing.T) {
	x := begin(t, 0, 1, 1, 1, 1, 0, 0, 2)
	for p := range 3 {
		spawn(t, x, api.Op{Kind: api.Inc}, p)
		checkLive(t, rounds(t, x, 13, 0), 0)
	}
	for p := range 3 {
		stands(t, x, p, at(20, 0, p))
	}
	leaf(t, x, 2, 2, 0)
	leaf(t, x, 3, 1, 0)
}

func TestExampleTooLateForTheSlot(t *testing.T) {
	x := begin(t, 0, 1, 1, 1, 1, 1, 0, 2)
	spawn(t, x, api.Op{Kind: api.Inc}, 0)
	spawn(t, x, api.Op{Kind: api.Inc}, 1)
	checkLive(t, rounds(t, x, 9, 0), 2)
	stands(t, x, 0, at(0, 3, 0))
	stands(t, x, 1, at(12, 2, 0))
	checkLive(t, rounds(t, x, 5, 0), 0)
	stands(t, x, 0, at(20, 0, 1))
	stands(t, x, 1, at(20, 0, 0))
}

func TestExampleTwoIncsMeet(t *testing.T) {
	x := begin(t, 0, 1, 1, 1, 1, 1, 0, 2)
	spawn(t, x, api.Op{Kind: api.Inc}, 0)
	checkLive(t, rounds(t, x, 5, 0), 1)
	spawn(t, x, api.Op{Kind: api.Inc}, 1)
	walk(t, x, 1, 0, 1, 3, 4, 8, 0)
	walk(t, x, 0, 0, 7, 0)
	stands(t, x, 0, at(0, 2, 0))
	stands(t, x, 1, at(0, 3, 0))
}

func TestExamplePutAndGetMeet(t *testing.T) {
	x := begin(t, 1, 1, 1, 1, 1, 1, 0, 2)
	spawn(t, x, api.Op{Kind: api.Put, Val: -7}, 0)
	checkLive(t, rounds(t, x, 5, 0), 1)
	spawn(t, x, api.Op{Kind: api.Get}, 1)
	walk(t, x, 1, 9, 1, 3, 4, 8, 19)
	stands(t, x, 1, at(19, 1, -7))
	checkLive(t, rounds(t, x, 4, 0), 0)
	stands(t, x, 0, at(20, 0, 0))
	stands(t, x, 1, at(20, 0, -7))
	leaf(t, x, 2, 0, 0)
	leaf(t, x, 3, 0, 0)
}

func TestExampleFullLeaf(t *testing.T) {
	x := begin(t, 1, 0, 0, 2, 1, 0, 0, 4)
	for p, val := range []int{5, 6, 7} {
		spawn(t, x, api.Op{Kind: api.Put, Val: val}, p)
	}
	checkLive(t, rounds(t, x, 9, 0), 1)
	stands(t, x, 2, at(13, 1, 0))
	leaf(t, x, 1, 3, 0, 5, 6)
	spawn(t, x, api.Op{Kind: api.Get}, 3)
	checkLive(t, rounds(t, x, 9, 0), 0)
	stands(t, x, 3, at(20, 0, 5))
	leaf(t, x, 1, 3, 1, 6, 7)
}

func TestExampleUnfoldAndFold(t *testing.T) {
	x := begin(t, 1, 1, 0, 1, 1, 0, 0, 3)
	spawn(t, x, put(5), 0)
	spawn(t, x, put(6), 1)
	checkLive(t, rounds(t, x, 9, 0), 0)
	spawn(t, x, unfold(1), 2)
	walk(t, x, 2, 0, 16, 17, 20)
	stands(t, x, 2, at(20, 0, 1))
	leaf(t, x, 2, 1, 0, 5)
	leaf(t, x, 3, 1, 0, 6)
	spawn(t, x, fold(1), 3)
	checkLive(t, rounds(t, x, 9, 0), 0)
	stands(t, x, 3, at(20, 0, 1))
	leaf(t, x, 1, 2, 0, 5, 6)
	checkShape(t, x, -1)
}

func TestExampleSomebodyInside(t *testing.T) {
	x := begin(t, 1, 1, 1, 1, 1, 0, 1, 3)
	spawn(t, x, get(), 0)
	checkLive(t, rounds(t, x, 20, 0), 1)
	spawn(t, x, fold(1), 1)
	refuse(t, x, fold(2), api.ErrOp)
	checkLive(t, rounds(t, x, 9, 0), 1)
	stands(t, x, 0, at(14, 3, 0))
	stands(t, x, 1, at(20, 0, 3))
}

func TestExampleSentBack(t *testing.T) {
	x := begin(t, 1, 1, 1, 1, 1, 0, 1, 3)
	spawn(t, x, get(), 0)
	spawn(t, x, fold(1), 1)
	checkLive(t, rounds(t, x, 30, 0), 1)
	stands(t, x, 0, at(14, 1, 0))
	stands(t, x, 1, at(20, 0, 1))
}

func TestExampleNotThere(t *testing.T) {
	x := begin(t, 0, 2, 1, 1, 1, 0, 0, 2)
	for p, c := range []struct{ target, val int }{{2, 2}, {1, 1}, {1, 2}} {
		spawn(t, x, fold(c.target), p)
		checkLive(t, rounds(t, x, 9, 0), 0)
		stands(t, x, p, at(20, 0, c.val))
	}
	leaf(t, x, 1, 0, 0)
	checkShape(t, x, -1)
}

func TestExampleNotLeaves(t *testing.T) {
	x := begin(t, 0, 2, 2, 1, 1, 0, 0, 2)
	spawn(t, x, fold(1), 0)
	checkLive(t, rounds(t, x, 9, 0), 0)
	stands(t, x, 0, at(20, 0, 4))
	refuse(t, x, unfold(4), api.ErrOp)
	spawn(t, x, unfold(3), 1)
	checkLive(t, rounds(t, x, 9, 0), 0)
	stands(t, x, 1, at(20, 0, 2))
}
