package prism

import (
	"math"
	"math/rand"
	"testing"

	"prism/api"
)

// twins are two trees to which the same is done: the one rests, the other takes
// the same steps one by one.
type twins struct{ rests, steps *Tree }

func twin(t *testing.T, n ...int) twins {
	t.Helper()
	return twins{begin(t, n...), begin(t, n...)}
}

func (w twins) spawn(t *testing.T, list ...api.Op) {
	t.Helper()
	for _, o := range list {
		p := len(look(w.rests).procs)
		spawn(t, w.rests, o, p)
		spawn(t, w.steps, o, p)
	}
}

func (w twins) step(t *testing.T, p, draw, often int) {
	t.Helper()
	for range often {
		a, _ := w.rests.Step(p, draw)
		b, _ := w.steps.Step(p, draw)
		if a != b {
			t.Fatalf("P10: behind Rests Step(%d) = %d, behind the same steps %d", p, a, b)
		}
	}
}

// rest lets the twins rest: they must tell the same behind it.
func (w twins) rest(t *testing.T, often, draw int) int {
	t.Helper()
	live, e := w.rests.Rest(often, draw)
	if want := rounds(t, w.steps, often, draw); live != want || e != api.OK {
		t.Fatalf("P10: Rest(%d, %d) of %+v = %d, %d, want %d, 0", often, draw, w.rests.conf, live, e, want)
	}
	same(t, "P10", look(w.rests), look(w.steps))
	return live
}

// rest is a Rest of a tree that must answer so many live processes.
func rest(t *testing.T, x *Tree, often, draw, want int) {
	t.Helper()
	if live, e := x.Rest(often, draw); live != want || e != api.OK {
		t.Errorf("P10: Rest(%d, %d) = %d, %d, want %d, 0", often, draw, live, e, want)
	}
}

// restless checks that numbers of rounds that may not be are refused, and that
// nothing is changed then, not even what shows only later.
func restless(t *testing.T, w twins) {
	t.Helper()
	ahead := look(w.rests)
	for _, often := range append([]int{101, 102, 112, 200, 256, -1, -2, -12, -100, -101}, far()...) {
		for _, draw := range []int{math.MinInt, -1, 0, 1, 12, math.MaxInt} {
			if live, e := w.rests.Rest(often, draw); live != 0 || e != api.ErrRounds {
				t.Fatalf("P10: Rest(%d, %d) = %d, %d, want 0, 6", often, draw, live, e)
			}
		}
	}
	same(t, "P1", look(w.rests), ahead)
	w.rest(t, 3, 5)
	w.rest(t, 100, 5)
}

func TestRestOfRoundsThatMayNotBe(t *testing.T) {
	for kind := 0; kind <= 1; kind++ {
		for often := range 30 {
			w := twin(t, kind, 2, 1, 1, 3, 1, 2, 8)
			if often > 0 {
				w.spawn(t, append(ops(kind), fold(1), unfold(2), good(kind))...)
			}
			w.rest(t, often, 1)
			restless(t, w)
			restless(t, w)
		}
	}
}

// Each number of rounds that may be.
func TestRestOfEachNumberOfRounds(t *testing.T) {
	for often := 0; often <= 100; often++ {
		w := twin(t, 1, 4, 3, 1, 4, 8, 16, 16)
		w.spawn(t, put(1), put(2), get(), fold(4), put(3), unfold(8), put(4), fold(2), get(), put(5))
		w.rest(t, often, 0)
		w.rest(t, often, often)
	}
}

// No round: nothing is changed, and the live ones are counted all the same.
func TestRestOfNoRound(t *testing.T) {
	x := begin(t, 1, 1, 1, 1, 2, 1, 0, 16)
	rest(t, x, 0, 0, 0)
	for p, o := range []api.Op{put(1), get(), fold(1), put(2)} {
		spawn(t, x, o, p)
		walk(t, x, p, 0, []int{api.Look, api.Look, api.Drain, api.Look}[p])
		ahead := look(x)
		for _, draw := range append(far(), -1, 0, 1) {
			rest(t, x, 0, draw, p+1)
		}
		same(t, "P10", look(x), ahead)
	}
}

// One round is one step of each, with the last of them too, and of an Inc at a
// single leaf each one is another phase: worked out by hand.
func TestRestOfOneRound(t *testing.T) {
	x := begin(t, 0, 0, 0, 1, 1, 0, 0, 4)
	for p := range 4 {
		spawn(t, x, api.Op{Kind: api.Inc}, p)
		rest(t, x, 1, 0, []int{1, 2, 3, 3}[p])
	}
	for p, want := range []api.Proc{at(api.Done, 0, 0), at(api.Leave, 1, 1), at(api.Ticket, 1, 0), at(api.Look, 1, 0)} {
		stands(t, x, p, want)
	}
	same(t, "P10", seen{nodes: look(x).nodes}, seen{nodes: []api.Node{leafNode(1, 3, 2)}})
	rest(t, x, 1, 0, 2)
	rest(t, x, 1, 0, 1)
	rest(t, x, 1, 0, 0)
	for p := range 4 {
		stands(t, x, p, at(api.Done, 0, p))
	}
	rest(t, x, 1, 0, 0)
}

// Whoever has the lower number comes first: to the ticket, and to the slot.
func TestRestByRisingNumbers(t *testing.T) {
	x := begin(t, 0, 0, 0, 1, 1, 0, 0, 16)
	for p := range 16 {
		spawn(t, x, api.Op{Kind: api.Inc}, p)
	}
	rest(t, x, 3, 0, 16)
	for p := range 16 {
		stands(t, x, p, at(api.Leave, 1, p))
	}
	y := begin(t, 0, 1, 1, 1, 1, 0, 0, 3)
	for p := range 3 {
		spawn(t, y, api.Op{Kind: api.Inc}, p)
	}
	rest(t, y, 5, 0, 3)
	for p, phase := range []int{api.Wait, api.Grow, api.Grow} {
		stands(t, y, p, at(phase, 1, 0))
	}
	// A round is over before the next begins: nobody takes two steps in a row.
	rest(t, y, 1, 0, 3)
	for p, phase := range []int{api.Shrink, api.Toggle, api.Toggle} {
		stands(t, y, p, at(phase, 1, 0))
	}
}

func TestRestWithoutProcesses(t *testing.T) {
	for kind := 0; kind <= 1; kind++ {
		for start := 0; start <= 3; start++ {
			x := begin(t, kind, 3, start, 1, 2, 0, 0, 3)
			ahead := look(x)
			for often := 0; often <= 100; often++ {
				rest(t, x, often, often, 0)
			}
			same(t, "P10", look(x), ahead)
		}
	}
}

func TestRestOfThoseThatAreDone(t *testing.T) {
	x := begin(t, 1, 2, 1, 2, 2, 0, 0, 3)
	fill(t, x, 0, put(4), fold(1), put(5), unfold(1), get(), unfold(2), put(6))
	ahead := look(x)
	for _, often := range []int{0, 1, 2, 100} {
		rest(t, x, often, 7, 0)
	}
	same(t, "P10", look(x), ahead)
	y := spent(t, 1, 16, 0)
	ahead = look(y)
	rest(t, y, 100, 7, 0)
	same(t, "P10", look(y), ahead)
}

// Some are live and some are Done: the draw hangs on the process's number, not
// on how many are live ahead of it.
func TestRestOfSomeThatAreLive(t *testing.T) {
	for done := range 8 {
		w := twin(t, 0, 2, 2, 1, 4, 2, 2, 16)
		w.spawn(t, incs(8)...)
		for p := range 8 {
			if p&done == 0 {
				w.step(t, p, 0, 60)
			}
		}
		w.spawn(t, incs(4)...)
		for often := range 12 {
			w.rest(t, 1, often)
		}
		w.rest(t, 40, 2)
	}
	x := spent(t, 0, 16, 5)
	rest(t, x, 3, 0, 5)
	rest(t, x, 100, 0, 0)
	for p := range 256 {
		if q, _ := x.Proc(p); q.Phase != api.Done {
			t.Errorf("P10: process %d of a spent tree: %+v", p, q)
		}
	}
}

// One gets Done in the midst of the rounds: the others go on.
func TestRestBeyondOnesEnd(t *testing.T) {
	for often := 0; often <= 20; often++ {
		w := twin(t, 0, 1, 1, 1, 2, 1, 0, 3)
		w.spawn(t, incs(3)...)
		w.step(t, 1, 0, 10)
		w.step(t, 2, 0, 6)
		w.rest(t, often, 0)
	}
	x := begin(t, 0, 0, 0, 1, 1, 0, 0, 3)
	for p := range 3 {
		spawn(t, x, api.Op{Kind: api.Inc}, p)
	}
	walk(t, x, 1, 0, api.Look, api.Ticket, api.Leave)
	rest(t, x, 3, 0, 2)
	stands(t, x, 0, at(api.Leave, 1, 1))
	stands(t, x, 1, at(api.Done, 0, 0))
	stands(t, x, 2, at(api.Leave, 1, 2))
}

// Puts at a full leaf and Gets at an empty one stay live, and change nothing.
func TestRestOfThoseThatWait(t *testing.T) {
	for start := 0; start <= 2; start++ {
		full := begin(t, 1, 2, start, 1, 2, 0, 0, 10)
		empty := begin(t, 1, 2, start, 1, 2, 0, 0, 10)
		for p := range 9 {
			spawn(t, full, put(p), p)
			spawn(t, empty, get(), p)
		}
		rest(t, full, 100, 0, 5)
		rest(t, empty, 100, 0, 9)
		one, other := look(full), look(empty)
		for range 3 {
			rest(t, full, 100, 3, 5)
			rest(t, empty, 100, 3, 9)
		}
		same(t, "P10", look(full), one)
		same(t, "P10", look(empty), other)
		waiting(t, full, api.Store, 5)
		waiting(t, empty, api.Fetch, 9)
		spawn(t, full, get(), 9)
		spawn(t, empty, put(1), 9)
		rest(t, full, 100, 0, 4)
		rest(t, empty, 100, 0, 8)
		waiting(t, full, api.Store, 4)
		waiting(t, empty, api.Fetch, 8)
	}
}

// waiting checks that so many processes are in a phase, and all others Done.
func waiting(t *testing.T, x *Tree, phase, want int) {
	t.Helper()
	for p, q := range look(x).procs {
		if q.Phase == phase {
			want--
		} else if q.Phase != api.Done {
			t.Errorf("P10: process %d: %+v", p, q)
		}
	}
	if want != 0 {
		t.Errorf("P10: %d more wait in the phase %d", want, phase)
	}
}

// The slot of a process that is in Wide in round k, worked out by hand: draw
// modulo 12, and k, and the process's number, which is 6 or more here.
func TestRestDrawsByHand(t *testing.T) {
	for _, c := range []struct{ width, draw, ahead, round, slot int }{
		{4, 0, 0, 0, 2}, {4, 1, 0, 0, 3}, {4, 2, 0, 0, 0}, {4, 3, 0, 0, 1}, {4, 11, 0, 0, 1}, {4, 12, 0, 0, 2}, {4, 13, 0, 0, 3},
		{4, 0, 1, 0, 3}, {4, 0, 2, 0, 0}, {4, 0, 3, 0, 1}, {4, 5, 3, 0, 2},
		{4, 0, 0, 1, 3}, {4, 0, 0, 2, 0}, {4, 1, 1, 2, 2}, {4, -1, 0, 2, 3}, {4, -12, 0, 2, 0}, {4, -13, 0, 1, 2},
		{4, math.MaxInt, 0, 0, 1}, {4, math.MinInt, 0, 0, 2}, {4, math.MinInt, 1, 2, 1},
		{3, 0, 0, 0, 0}, {3, 1, 0, 0, 1}, {3, 2, 0, 0, 2}, {3, 11, 0, 0, 2}, {3, 12, 0, 0, 0}, {3, 14, 0, 1, 0}, {3, 0, 0, 2, 2}, {3, 0, 2, 2, 1},
		{3, -1, 0, 0, 2}, {3, -2, 0, 0, 1}, {3, -11, 0, 0, 1}, {3, -12, 0, 0, 0}, {3, -1, 1, 0, 0}, {3, -1, 0, 2, 1},
		{3, math.MaxInt, 0, 0, 1}, {3, math.MaxInt, 1, 0, 2}, {3, math.MaxInt, 0, 2, 0}, {3, math.MaxInt - 1, 0, 0, 0}, {3, math.MaxInt - 5, 0, 0, 2},
		{3, math.MinInt, 0, 0, 1}, {3, math.MinInt, 0, 2, 0}, {3, math.MinInt + 1, 0, 0, 2},
	} {
		x, p := wide(t, c.width, 3, 2)
		for range c.ahead {
			p = fill(t, x, p, unfold(1)) // it finds the root inner
		}
		spawn(t, x, api.Op{Kind: api.Inc}, p)
		walk(t, x, p, 0, []int{api.Look, api.Wide}[:2-c.round]...)
		if n := nodeOf(t, x, 1); n.Width != c.width {
			t.Fatalf("P7: root %+v, want the width %d", n, c.width)
		}
		rest(t, x, c.round+1, c.draw, 1)
		walk(t, x, p, 0, api.Claim, api.Wait)
		if n := nodeOf(t, x, 1); n.Waiting[c.slot] != p {
			t.Errorf("P10: process %d, round %d, draw %d, width %d: %v, want the slot %d", p, c.round, c.draw, c.width, n.Waiting, c.slot)
		}
	}
}

// Draws below 0 and very great ones, at both ends of an int, in rounds in which
// many meet.
func TestRestDraws(t *testing.T) {
	draws := far()
	for d := range 30 {
		draws = append(draws, d-15, math.MinInt+d, math.MaxInt-d)
	}
	for _, width := range []int{2, 3, 4} {
		for kind := 0; kind <= 1; kind++ {
			for i, draw := range draws {
				w := twin(t, kind, 2, 2, 2, width, i%4, 2, 16)
				for range 3 {
					for range 5 {
						w.spawn(t, good(kind))
					}
					w.rest(t, 4+i%3, draw)
				}
				w.rest(t, 60, draw)
			}
		}
	}
}

// Trees, operations, steps, rounds and draws drawn from a fixed seed.
func TestRestIsSteps(t *testing.T) {
	for seed := range 300 {
		r := rand.New(rand.NewSource(int64(seed)))
		w := twin(t, someConfig(r, seed%2)...)
		c := w.rests.conf
		many := 1 + r.Intn(6)
		for range 12 {
			for range r.Intn(1 + c.Procs) {
				if w.steps.live() < c.Procs && len(w.steps.procs) < api.MaxSpawns {
					w.spawn(t, someOp(r, c, many))
				}
			}
			for range r.Intn(6) {
				w.step(t, r.Intn(20), r.Intn(40)-20, 1)
			}
			w.rest(t, r.Intn(20), []int{r.Intn(40) - 20, r.Int() - r.Int()}[r.Intn(2)])
		}
	}
}

// Folds and Unfolds rest as the others do: in rounds by hand, at the root.
func TestRestOfAFold(t *testing.T) {
	x := begin(t, 0, 1, 1, 1, 2, 0, 2, 4)
	spawn(t, x, fold(1), 0)
	spawn(t, x, api.Op{Kind: api.Inc}, 1)
	spawn(t, x, unfold(1), 2)
	rest(t, x, 1, 0, 2) // the Unfold comes to a gate that is shut
	stands(t, x, 0, at(api.Drain, 1, 0))
	stands(t, x, 1, at(api.Look, 1, 0))
	stands(t, x, 2, at(api.Done, 0, api.NotThere))
	rest(t, x, 2, 0, 2)
	stands(t, x, 0, at(api.Drain, 1, 0))
	stands(t, x, 1, at(api.Enter, 1, 0))
	rest(t, x, 1, 0, 2)
	stands(t, x, 0, at(api.Change, 1, 0))
	stands(t, x, 1, at(api.Look, 1, 0))
	rest(t, x, 1, 0, 1)
	stands(t, x, 0, at(api.Done, 0, api.Changed))
	stands(t, x, 1, at(api.Ticket, 1, 0))
	rest(t, x, 100, 0, 0)
	stands(t, x, 1, at(api.Done, 0, 0))
	checkShape(t, x, -1)
	leaf(t, x, 1, 1, 0)
}

// Lists that came out ahead of a Rest stay the caller's, and so are those that
// come out behind it (P2).
func TestNodesAreTheCallersBesideARest(t *testing.T) {
	w := twin(t, 1, 2, 1, 2, 3, 1, 4, 16)
	var outers [][]api.Node
	var inners [][][]int
	for i := range 40 {
		if i%3 == 0 {
			w.spawn(t, []api.Op{put(i), put(-i), unfold(2), put(0), get(), fold(2), fold(1), unfold(1)}[i/3%8])
		}
		ahead := look(w.rests)
		older := w.rests.Nodes()
		outer, inner := scribble(w.rests.Nodes())
		outers = append(outers, outer)
		inners = append(inners, inner)
		w.rest(t, 1+i%7, i)
		same(t, "P2", told(older), seen{nodes: ahead.nodes})
	}
	for i := range outers {
		checkScribbled(t, outers[i], inners[i])
	}
	checkApart(t, w.rests)
}

// A tree rests as it would alone, whatever goes on in another (P2).
func TestTreesDoNotTouchBesideARest(t *testing.T) {
	w := twin(t, 1, 2, 2, 1, 3, 1, 2, 8)
	other := begin(t, 1, 3, 1, 1, 2, 2, 1, 16)
	for i, o := range []api.Op{put(1), put(2), get(), fold(1), fold(2), put(3), get(), unfold(2)} {
		w.spawn(t, o)
		spawn(t, other, []api.Op{get(), put(9), unfold(2)}[i%3], i)
		other.Rest(7, i)
		Play(conf(1, 2, 2, 1, 3, 1, 2, 8), "p1;p2;r9,0;g;f2;r30,1;l")
		w.rest(t, 5, i)
	}
	w.rest(t, 100, 0)
}
