package prism

import (
	"math"
	"slices"
	"testing"

	"prism/api"
)

func put(val int) api.Op { return api.Op{Kind: api.Put, Val: val} }

func get() api.Op { return api.Op{Kind: api.Get, Val: 4711} }

// atLeaf lets new processes, from number p on, go to the root, which is a leaf,
// and take their tickets there.
func atLeaf(t *testing.T, x *Tree, p int, list ...api.Op) {
	t.Helper()
	for _, o := range list {
		spawn(t, x, o, p)
		walk(t, x, p, 0, api.Look, api.Ticket)
		if o.Kind == api.Put {
			takes(t, x, p, 0, at(api.Store, 1, 0), func(n *api.Node) { n.Puts++ })
		} else {
			takes(t, x, p, 0, at(api.Fetch, 1, 0), func(n *api.Node) { n.Gets++ })
		}
		p++
	}
}

// stores and fetches are the steps at a leaf that get somewhere: items are
// those that must lie behind them.
func stores(t *testing.T, x *Tree, p int, items ...int) {
	t.Helper()
	takes(t, x, p, 0, at(api.Leave, 1, 0), func(n *api.Node) { n.Items = append([]int(nil), items...) })
}

func fetches(t *testing.T, x *Tree, p, val int, items ...int) {
	t.Helper()
	takes(t, x, p, 0, at(api.Leave, 1, val), func(n *api.Node) { n.Items = append([]int(nil), items...) })
}

// stuck are processes whose steps get nowhere, however often they take one.
func stuck(t *testing.T, x *Tree, procs ...int) {
	t.Helper()
	for range 3 {
		for _, p := range procs {
			q, _ := x.Proc(p)
			takes(t, x, p, 0, q, nil)
		}
	}
}

// Inc: rank plus 2^depth times Puts, at every leaf of every depth.
func TestTicketOfInc(t *testing.T) {
	for depth := 0; depth <= 4; depth++ {
		x := begin(t, 0, 4, depth, 1, 1, 0, 0, 1)
		for p := range 3 << depth {
			spawn(t, x, api.Op{Kind: api.Inc}, p)
			for range depth {
				walk(t, x, p, 0, pastInner...)
			}
			walk(t, x, p, 0, api.Look, api.Ticket)
			q, _ := x.Proc(p)
			if n := nodeOf(t, x, q.Node); n.Rank != p%(1<<depth) || n.Puts != p>>depth {
				t.Fatalf("P8: Inc %d has got to %+v", p, n)
			}
			takes(t, x, p, 0, at(api.Leave, q.Node, p), func(n *api.Node) { n.Puts++ })
			finish(t, x, p)
		}
	}
}

// The answers of Incs that met and so did not go in turn, by hand: the leaf of
// node 3 has rank 1 of depth 1.
func TestTicketOfIncsOutOfTurn(t *testing.T) {
	x := begin(t, 0, 2, 1, 1, 1, 0, 0, 16)
	inc := api.Op{Kind: api.Inc}
	waits(t, x, inc, 0, 0)
	sees(t, x, inc, 1, 0)
	finish(t, x, 1)
	stands(t, x, 1, at(api.Done, 0, 1))
	finish(t, x, 0)
	stands(t, x, 0, at(api.Done, 0, 0))
	waits(t, x, inc, 2, 0)
	sees(t, x, inc, 3, 0)
	finish(t, x, 3)
	stands(t, x, 3, at(api.Done, 0, 3))
	finish(t, x, 2)
	stands(t, x, 2, at(api.Done, 0, 2))
}

func TestTicketsOfPutsAndGets(t *testing.T) {
	x := begin(t, 1, 0, 0, 4, 1, 0, 0, 16)
	atLeaf(t, x, 0, get(), put(1), put(2), get(), get(), put(3))
	if n := nodeOf(t, x, 1); n.Puts != 3 || n.Gets != 3 || n.Inside != 6 || len(n.Items) != 0 {
		t.Errorf("P8: leaf %+v", n)
	}
}

// A leaf takes as many items as its room, and then no more: Slots times
// 2^(Depth - depth), at the root and below it.
func TestRoom(t *testing.T) {
	for depth := 0; depth <= 2; depth++ {
		for slots := 1; slots <= 4; slots++ {
			room := []int{1, 2, 4}[depth] * slots
			x := begin(t, 1, depth, 0, slots, 1, 0, 0, 16)
			var items []int
			for p := 0; p < room && p < 16; p++ {
				atLeaf(t, x, p, put(100+p))
				items = append(items, 100+p)
				stores(t, x, p, items...)
				finish(t, x, p)
			}
			atLeaf(t, x, room, put(1), put(2))
			stuck(t, x, room, room+1)
		}
	}
}

func TestRoomBelow(t *testing.T) {
	for _, c := range []struct{ depth, start, slots, room int }{
		{1, 1, 1, 1}, {1, 1, 4, 4}, {2, 1, 1, 2}, {2, 1, 3, 6}, {2, 2, 1, 1}, {3, 1, 1, 4}, {4, 1, 1, 8}, {4, 2, 1, 4}, {4, 3, 2, 4}, {4, 4, 3, 3}, {4, 1, 4, 32}, {4, 0, 4, 64},
	} {
		x := begin(t, 1, c.depth, c.start, c.slots, 1, 0, 0, 16)
		total := c.room << c.start
		for p := range total {
			spawn(t, x, put(p), p)
			finish(t, x, p)
		}
		for _, n := range x.Nodes() {
			if !n.Inner && (len(n.Items) != c.room || n.Puts != c.room) {
				t.Errorf("P8: %+v: leaf %+v, want %d items", c, n, c.room)
			}
		}
		for k := range 3 {
			p := total + k
			spawn(t, x, put(p), p)
			for range c.start {
				walk(t, x, p, 0, pastInner...)
			}
			walk(t, x, p, 0, api.Look, api.Ticket, api.Store)
			stuck(t, x, p)
		}
	}
}

// A full leaf: the next Put waits until the item under its ticket less the room
// was taken, by a later step.
func TestStoreWaitsForAFetch(t *testing.T) {
	x := begin(t, 1, 0, 0, 2, 1, 0, 0, 16)
	atLeaf(t, x, 0, put(5), put(6), put(7), put(8), put(9))
	stores(t, x, 0, 5)
	stores(t, x, 1, 5, 6)
	stuck(t, x, 2, 3, 4)
	atLeaf(t, x, 5, get())
	stuck(t, x, 2, 3, 4)
	fetches(t, x, 5, 5, 6)
	stuck(t, x, 3, 4)
	stores(t, x, 2, 6, 7)
	stuck(t, x, 3, 4)
	atLeaf(t, x, 6, get(), get())
	fetches(t, x, 7, 7, 6)
	stuck(t, x, 3)
	stores(t, x, 4, 6, 9)
	stuck(t, x, 3)
	fetches(t, x, 6, 6, 9)
	stores(t, x, 3, 8, 9)
}

// The item whose place a Put wants has not even been laid down: it waits as
// well, also when other places are free.
func TestStoreWaitsForAStore(t *testing.T) {
	x := begin(t, 1, 0, 0, 2, 1, 0, 0, 16)
	atLeaf(t, x, 0, put(5), put(6), put(7), put(8), get(), get())
	stuck(t, x, 2, 3)
	stores(t, x, 1, 6)
	stuck(t, x, 2, 3)
	fetches(t, x, 5, 6)
	stores(t, x, 3, 8)
	stuck(t, x, 2)
	stores(t, x, 0, 5, 8)
	stuck(t, x, 2)
	fetches(t, x, 4, 5, 8)
	stores(t, x, 2, 7, 8)
}

// A Get waits for the item under its ticket, not for any item.
func TestFetchWaitsForItsTicket(t *testing.T) {
	x := begin(t, 1, 0, 0, 4, 1, 0, 0, 16)
	atLeaf(t, x, 0, get(), get(), get())
	stuck(t, x, 0, 1, 2)
	atLeaf(t, x, 3, put(5), put(6))
	stuck(t, x, 0, 1, 2)
	stores(t, x, 4, 6)
	stuck(t, x, 0, 2)
	fetches(t, x, 1, 6)
	stuck(t, x, 0, 2)
	stores(t, x, 3, 5)
	stuck(t, x, 2)
	fetches(t, x, 0, 5)
	stuck(t, x, 2)
	atLeaf(t, x, 5, put(-9))
	stuck(t, x, 2)
	stores(t, x, 5, -9)
	fetches(t, x, 2, -9)
}

// Items are told by rising tickets, in whatever order they were laid down.
func TestItemsInTheirOrder(t *testing.T) {
	x := begin(t, 1, 0, 0, 4, 1, 0, 0, 16)
	atLeaf(t, x, 0, put(10), put(11), put(12), put(13))
	stores(t, x, 2, 12)
	stores(t, x, 0, 10, 12)
	stores(t, x, 3, 10, 12, 13)
	stores(t, x, 1, 10, 11, 12, 13)
	atLeaf(t, x, 4, get(), get(), get(), put(14))
	fetches(t, x, 5, 11, 10, 12, 13)
	stuck(t, x, 7)
	fetches(t, x, 4, 10, 12, 13)
	stores(t, x, 7, 12, 13, 14)
	fetches(t, x, 6, 12, 13, 14)
}

// Any number may be put, the same one too, and comes out as it was.
func TestValues(t *testing.T) {
	values := append(far(), 0, 0, -1)
	x := begin(t, 1, 2, 0, 4, 1, 0, 0, 16)
	for i, val := range values {
		atLeaf(t, x, i, put(val))
	}
	for i := range values {
		stores(t, x, i, values[:i+1]...)
		finish(t, x, i)
	}
	for i, val := range values {
		atLeaf(t, x, len(values)+i, get())
		fetches(t, x, len(values)+i, val, values[i+1:]...)
		finish(t, x, len(values)+i)
	}
}

// Each leaf has tickets and items of its own.
func TestLeavesAreApart(t *testing.T) {
	x := begin(t, 1, 1, 1, 1, 1, 0, 0, 16)
	for p, o := range []api.Op{put(1), put(2), put(3), put(4), get(), get()} {
		spawn(t, x, o, p)
		walk(t, x, p, 0, pastInner...)
	}
	for p := range 4 {
		walk(t, x, p, 0, api.Look, api.Ticket, api.Store)
	}
	for p := 4; p < 6; p++ {
		walk(t, x, p, 0, api.Look, api.Ticket, api.Fetch)
	}
	takes(t, x, 1, 0, at(api.Leave, 3, 0), func(n *api.Node) { n.Items = []int{2} })
	stuck(t, x, 2, 3, 5)
	stands(t, x, 5, at(api.Fetch, 2, 0))
	takes(t, x, 4, 0, at(api.Leave, 3, 2), func(n *api.Node) { n.Items = nil })
	stuck(t, x, 2, 5)
	takes(t, x, 3, 0, at(api.Leave, 3, 0), func(n *api.Node) { n.Items = []int{4} })
	takes(t, x, 0, 0, at(api.Leave, 2, 0), func(n *api.Node) { n.Items = []int{1} })
	takes(t, x, 5, 0, at(api.Leave, 2, 1), func(n *api.Node) { n.Items = nil })
	takes(t, x, 2, 0, at(api.Leave, 2, 0), func(n *api.Node) { n.Items = []int{3} })
}

// Many tickets at one leaf, one after the other: the places are used again and
// again, up to the last process that may be begun.
func TestPlacesAreUsedAgain(t *testing.T) {
	x := begin(t, 1, 0, 0, 3, 1, 0, 0, 16)
	for p := range 256 {
		o := put(p)
		if p >= 3 && p%2 == 1 {
			o = get()
		}
		spawn(t, x, o, p)
		finish(t, x, p)
	}
	want := []int{252, 254}
	if n := nodeOf(t, x, 1); !slices.Equal(n.Items, want) || n.Puts != 129 || n.Gets != 127 {
		t.Errorf("P8: leaf %+v, want the items %v", n, want)
	}
}

// Nodes in the midst of things hands out lists of its own (P2).
func TestNodesAreTheCallersInTheMidst(t *testing.T) {
	x := begin(t, 1, 1, 1, 2, 2, 3, 0, 16)
	for p := range 4 {
		spawn(t, x, put(p+math.MaxInt32), p)
		finish(t, x, p)
	}
	waits(t, x, get(), 4, 0)
	ahead := look(x)
	outer, inner := scribble(x.Nodes())
	same(t, "P2", look(x), ahead)
	sees(t, x, get(), 5, 0)
	walk(t, x, 5, 0, api.Enter)
	finish(t, x, 5)
	finish(t, x, 4)
	checkScribbled(t, outer, inner)
}
