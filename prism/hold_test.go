package prism

import (
	"fmt"
	"math/rand"
	"reflect"
	"slices"
	"testing"

	"prism/api"
)

// watched is a tree beside what was done to it.
type watched struct {
	tree    *Tree
	ops     []api.Op
	stepped []bool
}

func watch(t *testing.T, n ...int) *watched {
	t.Helper()
	return &watched{tree: begin(t, n...)}
}

func (w *watched) spawn(t *testing.T, o api.Op) {
	t.Helper()
	spawn(t, w.tree, o, len(w.ops))
	w.ops = append(w.ops, o)
	w.stepped = append(w.stepped, false)
}

// step lets a process take a step, and checks what it may change (P16).
func (w *watched) step(t *testing.T, p, draw int) {
	t.Helper()
	ahead := look(w.tree)
	ph, e := w.tree.Step(p, draw)
	behind := look(w.tree)
	if e != api.OK || ph != behind.procs[p].Phase {
		t.Fatalf("P6: Step(%d, %d) of %+v = %d, %d", p, draw, ahead, ph, e)
	}
	at := ahead.procs[p]
	ahead.procs[p] = behind.procs[p]
	if !reflect.DeepEqual(ahead.procs, behind.procs) || !reflect.DeepEqual(elsewhere(ahead, at), elsewhere(behind, at)) {
		t.Fatalf("P16: a step of %d at %+v made %+v of %+v", p, at, behind, ahead)
	}
	checkTree(t, behind)
	w.stepped[p] = true
}

// elsewhere are the nodes that a step may not change of one that stands so.
func elsewhere(s seen, at api.Proc) []api.Node {
	return slices.DeleteFunc(slices.Clone(s.nodes), func(n api.Node) bool {
		return n.Num == at.Node || at.Phase == api.Change && n.Num/2 == at.Node
	})
}

// checkTree checks that the root is there, and just the children of inner nodes.
func checkTree(t *testing.T, s seen) {
	t.Helper()
	want := map[int]bool{1: true}
	for _, n := range s.nodes {
		if !want[n.Num] {
			t.Fatalf("P5: node %d is there: %+v", n.Num, s)
		}
		delete(want, n.Num)
		if n.Inner {
			want[2*n.Num] = true
			want[2*n.Num+1] = true
		}
	}
	if len(want) > 0 {
		t.Fatalf("P5: the nodes %v are not there: %+v", want, s)
	}
}

func (w *watched) live() []int {
	var list []int
	for p, q := range look(w.tree).procs {
		if q.Phase != api.Done {
			list = append(list, p)
		}
	}
	return list
}

// check checks all that holds at all times, and what holds of a still tree.
func (w *watched) check(t *testing.T) {
	t.Helper()
	s := look(w.tree)
	checkInside(t, s)
	checkGates(t, s)
	checkVals(t, s, w.ops)
	if w.isStill(s) {
		w.checkEven(t, s)
		checkItems(t, s, w.ops)
	}
}

// checkInside: P16, who is counted where.
func checkInside(t *testing.T, s seen) {
	t.Helper()
	inside := make([]int, 32)
	for _, q := range s.procs {
		v := q.Node
		switch q.Phase {
		case api.Enter, api.Shut, api.Drain, api.Change, api.Reopen:
			v /= 2
		}
		for ; v > 0; v /= 2 {
			inside[v]++
		}
	}
	for _, n := range s.nodes {
		if n.Inside != inside[n.Num] {
			t.Fatalf("P16: Inside of %+v, want %d: %+v", n, inside[n.Num], s)
		}
	}
}

// checkGates: a gate is shut as long as one is at it that has shut it.
func checkGates(t *testing.T, s seen) {
	t.Helper()
	holders := make([]int, 32)
	for _, q := range s.procs {
		if q.Phase == api.Drain || q.Phase == api.Change || q.Phase == api.Reopen {
			holders[q.Node]++
		}
	}
	for _, n := range s.nodes {
		if n.Shut != (holders[n.Num] == 1) || holders[n.Num] > 1 {
			t.Fatalf("P9: %d hold the gate of %+v: %+v", holders[n.Num], n, s)
		}
	}
}

func isOut(q api.Proc) bool { return q.Phase == api.Leave || q.Phase == api.Done }

// checkVals: P13 and P14, no answer comes out more often than it may.
func checkVals(t *testing.T, s seen, ops []api.Op) {
	t.Helper()
	got, may := map[int]int{}, map[int]int{}
	incs := 0
	for p, o := range ops {
		switch {
		case o.Kind == api.Inc:
			may[incs] = 1
			incs++
		case o.Kind == api.Put:
			may[o.Val]++
		}
		if (o.Kind == api.Inc || o.Kind == api.Get) && isOut(s.procs[p]) {
			got[s.procs[p].Val]++
		}
		if o.Kind == api.Put && s.procs[p].Val != 0 {
			t.Fatalf("a Put has the Val %d", s.procs[p].Val)
		}
	}
	for val, often := range got {
		if often > may[val] {
			t.Fatalf("P13, P14: %d came out %d times, not %d: %+v", val, often, may[val], s)
		}
	}
}

func (w *watched) isStill(s seen) bool {
	for p, q := range s.procs {
		if w.stepped[p] && q.Phase != api.Store && q.Phase != api.Fetch && !isOut(q) {
			return false
		}
	}
	return true
}

// checkEven: P12.
func (w *watched) checkEven(t *testing.T, s seen) {
	t.Helper()
	sum := 0
	for p, o := range w.ops {
		if w.stepped[p] && (o.Kind == api.Inc || o.Kind == api.Put) {
			sum++
		}
		if w.stepped[p] && o.Kind == api.Get {
			sum--
		}
	}
	for _, n := range s.nodes {
		parts := 1 << n.Depth
		share := (sum - n.Rank + modulo64(n.Rank-sum, parts)) / parts // rounded up
		if !n.Inner && n.Puts-n.Gets != share {
			t.Fatalf("P12: leaf %+v, want the share %d of %d: %+v", n, share, sum, s)
		}
	}
}

// checkItems: P14 of a still tree.
func checkItems(t *testing.T, s seen, ops []api.Op) {
	t.Helper()
	lie := map[int]int{}
	for _, n := range s.nodes {
		for _, val := range n.Items {
			lie[val]++
		}
	}
	for p, o := range ops {
		if o.Kind == api.Put && isOut(s.procs[p]) {
			lie[o.Val]--
		}
		if o.Kind == api.Get && isOut(s.procs[p]) {
			lie[s.procs[p].Val]++
		}
	}
	for val, often := range lie {
		if often != 0 {
			t.Fatalf("P14: %d lies %d times too often: %+v", val, often, s)
		}
	}
}

// checkEnd: P15, who is live at last.
func (w *watched) checkEnd(t *testing.T) {
	t.Helper()
	s := look(w.tree)
	room := w.tree.conf.Slots << w.tree.conf.Depth
	sum := 0
	phases := map[int]int{}
	for p, o := range w.ops {
		sum += map[int]int{api.Put: 1, api.Get: -1}[o.Kind]
		phases[s.procs[p].Phase]++
	}
	delete(phases, api.Done)
	want := map[int]int{}
	if sum < 0 {
		want[api.Fetch] = -sum
	}
	if sum > room {
		want[api.Store] = sum - room
	}
	if !reflect.DeepEqual(phases, want) {
		t.Fatalf("P15: live are, by phase, %v, want %v: %+v", phases, want, s)
	}
	for _, n := range s.nodes {
		if sum < 0 && len(n.Items) > 0 {
			t.Fatalf("P15: a Get is live beside an item: %+v", s)
		}
	}
}

// rest lets rounds go by in any order until everything must have come to its
// end, and checks that it has.
func (w *watched) rest(t *testing.T, r *rand.Rand) {
	t.Helper()
	c := w.tree.conf
	for range (c.Procs+1)*(c.Drain+8) + (c.Depth+1)*(c.Spin+12) {
		list := w.live()
		r.Shuffle(len(list), func(i, j int) { list[i], list[j] = list[j], list[i] })
		for _, p := range list {
			w.step(t, p, r.Int()-r.Int())
		}
	}
	w.check(t)
	w.checkEnd(t)
}

// someConfig is a configuration of a kind of tree, drawn from r.
func someConfig(r *rand.Rand, kind int) []int {
	depth := r.Intn(5)
	return []int{kind, depth, r.Intn(depth + 1), 1 + r.Intn(4), 1 + r.Intn(4), r.Intn(9), r.Intn(17), 1 + r.Intn(16)}
}

// someOp is an operation of a tree, drawn from r: of so many one changes a node.
func someOp(r *rand.Rand, c api.Config, many int) api.Op {
	if c.Depth > 0 && r.Intn(many) == 0 {
		return api.Op{Kind: api.Fold + r.Intn(2), Node: 1 + r.Intn(1<<c.Depth-1)}
	}
	list := ops(c.Kind)
	o := list[r.Intn(len(list))]
	o.Val = r.Intn(3) - 1
	return o
}

// Walks drawn from a fixed seed: a few processes take steps at a time, so that
// they meet, and the tree comes to be still every now and then.
func TestWalks(t *testing.T) {
	for seed := range 200 {
		r := rand.New(rand.NewSource(int64(seed)))
		w := watch(t, someConfig(r, seed%2)...)
		greed := 1 + r.Intn(5)
		many := 1 + r.Intn(8)
		for range 3 {
			for range 200 {
				list := w.live()
				if len(list) < w.tree.conf.Procs && len(w.ops) < api.MaxSpawns && r.Intn(12) == 0 {
					w.spawn(t, someOp(r, w.tree.conf, many))
				}
				if len(list) > greed {
					list = list[:greed]
				}
				if len(list) > 0 {
					w.step(t, list[r.Intn(len(list))], r.Intn(100)-50)
				}
				w.check(t)
			}
			w.rest(t, r)
		}
	}
}

// rests lets rounds go by in one Rest. In a second tree the same steps are taken
// one by one, each of them checked; the two must then tell the same.
func (w *watched) rests(t *testing.T, often, draw int) {
	t.Helper()
	v := w.clone()
	for k := range often {
		for _, p := range v.live() {
			v.step(t, p, modulo64(draw, 12)+k+p)
			v.check(t)
		}
	}
	live, e := w.tree.Rest(often, draw)
	if want := len(v.live()); live != want || e != api.OK {
		t.Fatalf("P10: Rest(%d, %d) = %d, %d, want %d, 0", often, draw, live, e, want)
	}
	same(t, "P10", look(w.tree), look(v.tree))
	w.stepped = v.stepped
	w.check(t)
}

// settle lets so many rounds go by, in Rests alone, that everything must have
// come to its end, and checks that it has.
func (w *watched) settle(t *testing.T, r *rand.Rand) {
	t.Helper()
	c := w.tree.conf
	left := (c.Procs+1)*(c.Drain+8) + (c.Depth+1)*(c.Spin+12)
	for left > 0 {
		often := min(left, 1+r.Intn(api.MaxRounds))
		if live, e := w.tree.Rest(often, r.Int()-r.Int()); live != len(w.live()) || e != api.OK {
			t.Fatalf("P10: Rest(%d) = %d, %d, want %d, 0", often, live, e, len(w.live()))
		}
		left -= often
		for p := range w.stepped {
			w.stepped[p] = true
		}
		w.check(t)
	}
	w.checkEnd(t)
}

// Walks drawn from a fixed seed, in which Rests stand among the Spawns and the
// Steps; behind them the rounds of P15, by Rests and, in a second tree, in any
// order.
func TestWalksWithRests(t *testing.T) {
	for seed := range 150 {
		r := rand.New(rand.NewSource(int64(1000 + seed)))
		w := watch(t, someConfig(r, seed%2)...)
		many := 1 + r.Intn(8)
		for range 2 {
			for range 60 {
				list := w.live()
				switch k := r.Intn(6); {
				case k < 3 && len(list) < w.tree.conf.Procs && len(w.ops) < api.MaxSpawns:
					w.spawn(t, someOp(r, w.tree.conf, many))
				case k < 5 && len(list) > 0:
					w.step(t, list[r.Intn(len(list))], r.Intn(100)-50)
				default:
					w.rests(t, r.Intn([]int{4, 8, 30, 101}[r.Intn(4)]), r.Intn(100)-50)
				}
				w.check(t)
			}
			w.clone().rest(t, r)
			w.settle(t, r)
		}
	}
}

// key tells two trees apart that could go on otherwise.
func (w *watched) key() string {
	return fmt.Sprint(w.tree.nodes[:8], w.tree.procs, w.stepped)
}

func (w *watched) clone() *watched {
	x := *w.tree
	x.procs = slices.Clone(x.procs)
	for v := range x.nodes {
		x.nodes[v].items = slices.Clone(x.nodes[v].items)
	}
	return &watched{tree: &x, ops: w.ops, stepped: slices.Clone(w.stepped)}
}

// hurry is rest by rising numbers, with a look at the end alone.
func (w *watched) hurry(t *testing.T) {
	t.Helper()
	c := w.tree.conf
	for range (c.Procs+1)*(c.Drain+8) + (c.Depth+1)*(c.Spin+12) {
		for p := range w.ops {
			w.tree.Step(p, 0)
			w.stepped[p] = true
		}
	}
	w.check(t)
	w.checkEnd(t)
}

// explore goes through everything that can come of a tree whose processes are
// all begun. It tells how many trees it saw.
func explore(t *testing.T, first *watched) int {
	t.Helper()
	known := map[string]bool{first.key(): true}
	next := []*watched{first}
	for len(next) > 0 {
		w := next[len(next)-1]
		next = next[:len(next)-1]
		w.check(t)
		w.clone().hurry(t)
		for _, p := range w.live() {
			for draw := range w.tree.conf.Width {
				v := w.clone()
				v.step(t, p, draw)
				if k := v.key(); !known[k] {
					known[k] = true
					next = append(next, v)
				}
			}
		}
	}
	return len(known)
}

// Every order of the steps of a few processes.
func TestEveryOrder(t *testing.T) {
	i, p, g := api.Op{Kind: api.Inc}, put(5), get()
	for _, c := range []struct {
		conf []int
		ops  []api.Op
	}{
		{[]int{0, 0, 0, 1, 1, 0, 0, 4}, []api.Op{i, i, i, i}},
		{[]int{0, 1, 1, 1, 1, 1, 0, 3}, []api.Op{i, i}},
		{[]int{0, 1, 1, 1, 1, 0, 0, 3}, []api.Op{i, i, i}},
		{[]int{0, 2, 2, 1, 2, 0, 0, 3}, []api.Op{i, i}},
		{[]int{1, 0, 0, 1, 1, 0, 0, 4}, []api.Op{p, g, put(6), g}},
		{[]int{1, 1, 1, 1, 1, 0, 0, 3}, []api.Op{p, g, put(6)}},
		{[]int{1, 1, 1, 1, 1, 0, 0, 3}, []api.Op{p, g, g}},
		{[]int{1, 2, 2, 1, 1, 1, 0, 2}, []api.Op{p, g}},
		{[]int{0, 1, 1, 1, 1, 0, 1, 3}, []api.Op{i, fold(1), i}},
		{[]int{0, 1, 0, 1, 1, 0, 1, 4}, []api.Op{i, unfold(1), fold(1), i}},
		{[]int{0, 2, 1, 1, 1, 0, 1, 5}, []api.Op{unfold(2), fold(1), fold(2), fold(3), unfold(1)}},
		{[]int{0, 2, 2, 1, 1, 0, 1, 4}, []api.Op{i, fold(2), fold(1), unfold(2)}},
		{[]int{1, 1, 1, 1, 1, 0, 0, 3}, []api.Op{p, fold(1), g}},
		{[]int{1, 1, 1, 1, 1, 0, 1, 4}, []api.Op{p, fold(1), unfold(1), put(6)}},
		{[]int{1, 1, 0, 1, 1, 0, 0, 4}, []api.Op{p, unfold(1), g, put(6)}},
	} {
		w := watch(t, c.conf...)
		for _, o := range c.ops {
			w.spawn(t, o)
		}
		count := explore(t, w)
		t.Logf("%v: %d trees", c.conf, count)
	}
}
