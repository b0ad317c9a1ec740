package prism

import (
	"math"
	"math/big"
	"testing"

	"prism/api"
)

// waits lets a new process wait in the slot of the root that the draw tells.
func waits(t *testing.T, x *Tree, o api.Op, p, draw int) {
	t.Helper()
	spawn(t, x, o, p)
	walk(t, x, p, draw, api.Look, api.Wide, api.Slot, api.Claim, api.Wait)
}

// sees lets a new process keep in mind who waits in the slot that the draw tells.
func sees(t *testing.T, x *Tree, o api.Op, p, draw int) {
	t.Helper()
	spawn(t, x, o, p)
	walk(t, x, p, draw, api.Look, api.Wide, api.Slot, api.Meet)
}

// claims lets a new process find the slot free that the draw tells.
func claims(t *testing.T, x *Tree, o api.Op, p, draw int) {
	t.Helper()
	spawn(t, x, o, p)
	walk(t, x, p, draw, api.Look, api.Wide, api.Slot, api.Claim)
}

// widen lets the width of a counter's root grow once, by three Incs from number
// p on, which are Done behind it. The first is met, so that it does not shrink
// the width again.
func widen(t *testing.T, x *Tree, p int) int {
	t.Helper()
	inc := api.Op{Kind: api.Inc}
	claims(t, x, inc, p, 0)
	claims(t, x, inc, p+1, 0)
	walk(t, x, p, 0, api.Wait)
	sees(t, x, inc, p+2, 0)
	walk(t, x, p+1, 0, api.Grow, api.Toggle)
	walk(t, x, p+2, 0, api.Enter)
	finish(t, x, p)
	finish(t, x, p+1)
	finish(t, x, p+2)
	return p + 3
}

// widths are the widths that the root gets as it grows, by Config's Width.
var widths = [][]int{1: {1, 1, 1}, 2: {1, 2, 2, 2}, 3: {1, 2, 3, 3}, 4: {1, 2, 4, 4}}

func TestWidthGrowsToItsBound(t *testing.T) {
	for width := 1; width <= 4; width++ {
		x := begin(t, 0, 1, 1, 1, width, 2, 0, 16)
		p := 0
		for _, want := range widths[width] {
			if n := nodeOf(t, x, 1); n.Width != want || len(n.Waiting) != width {
				t.Errorf("P7: Width %d: root %+v, want the width %d", width, n, want)
			}
			p = widen(t, x, p)
		}
	}
}

// wide is a counter whose root has grown so often; the answer is the number of
// the next process.
func wide(t *testing.T, width, spin, often int) (*Tree, int) {
	t.Helper()
	x := begin(t, 0, 1, 1, 1, width, spin, 0, 16)
	p := 0
	for range often {
		p = widen(t, x, p)
	}
	return x, p
}

func modulo64(x, w int) int {
	return int(new(big.Int).Mod(big.NewInt(int64(x)), big.NewInt(int64(w))).Int64())
}

// The slot is the draw modulo the width, not modulo Config's Width; draws below
// 0 and very great ones too.
func TestWide(t *testing.T) {
	draws := append(far(), math.MinInt+2, math.MinInt+3, math.MaxInt-2, math.MaxInt-3)
	for d := -13; d <= 13; d++ {
		draws = append(draws, d)
	}
	for width := 1; width <= 4; width++ {
		for often := 0; often <= 2; often++ {
			for _, draw := range draws {
				x, p := wide(t, width, 0, often)
				spawn(t, x, api.Op{Kind: api.Inc}, p)
				takes(t, x, p, draw, at(api.Look, 1, 0), grows)
				takes(t, x, p, draw, at(api.Wide, 1, 0), nil)
				takes(t, x, p, draw, at(api.Slot, 1, 0), nil)
				takes(t, x, p, 1, at(api.Claim, 1, 0), nil)
				k := modulo64(draw, widths[width][often])
				takes(t, x, p, 2, at(api.Wait, 1, 0), func(n *api.Node) { n.Waiting[k] = p })
			}
		}
	}
}

// The few draws of a width of 4 and of 3, by hand.
func TestWideByHand(t *testing.T) {
	for _, c := range []struct{ width, draw, slot int }{
		{4, -1, 3}, {4, -4, 0}, {4, -5, 3}, {4, -7, 1}, {4, 7, 3}, {4, math.MaxInt, 3}, {4, math.MinInt, 0}, {4, math.MinInt + 1, 1},
		{3, -1, 2}, {3, -2, 1}, {3, -3, 0}, {3, 5, 2}, {3, math.MaxInt, 1}, {3, math.MinInt, 1}, {3, math.MinInt + 1, 2},
	} {
		x, p := wide(t, c.width, 1, 2)
		waits(t, x, api.Op{Kind: api.Inc}, p, c.draw)
		if n := nodeOf(t, x, 1); n.Waiting[c.slot] != p {
			t.Errorf("P7: the draw %d of the width %d: %v, want the slot %d", c.draw, c.width, n.Waiting, c.slot)
		}
	}
}

// What waits in another slot does not matter.
func TestSlotsAreApart(t *testing.T) {
	x, p := wide(t, 4, 3, 2)
	inc := api.Op{Kind: api.Inc}
	for k := 0; k < 4; k++ {
		waits(t, x, inc, p+k, k)
	}
	sees(t, x, inc, p+4, 2)
	takes(t, x, p+4, 0, at(api.Enter, 3, 0), nil)
	takes(t, x, p+3, 0, at(api.Wait, 1, 0), nil)
	takes(t, x, p+2, 0, at(api.Taken, 1, 0), nil)
	takes(t, x, p+2, 0, at(api.Enter, 2, 0), func(n *api.Node) { n.Waiting[2] = api.None })
	if n := nodeOf(t, x, 1); n.Waiting[0] != p || n.Waiting[1] != p+1 || n.Waiting[3] != p+3 {
		t.Errorf("P7: root %+v", n)
	}
}

// A slot that is free, waited in, met in; and free again.
func TestSlot(t *testing.T) {
	for kind := 0; kind <= 1; kind++ {
		for _, o := range ops(kind) {
			for _, other := range ops(kind) {
				x := begin(t, kind, 1, 1, 1, 2, 5, 0, 16)
				spawn(t, x, o, 0)
				walk(t, x, 0, 1, api.Look, api.Wide, api.Slot)
				takes(t, x, 0, 1, at(api.Claim, 1, 0), nil)
				takes(t, x, 0, 1, at(api.Wait, 1, 0), func(n *api.Node) { n.Waiting[0] = 0 })
				spawn(t, x, other, 1)
				spawn(t, x, other, 2)
				spawn(t, x, other, 3)
				for p := 1; p <= 3; p++ {
					walk(t, x, p, 0, api.Look, api.Wide, api.Slot)
				}
				takes(t, x, 1, 0, at(api.Meet, 1, 0), nil)
				x.Step(1, 0)
				takes(t, x, 2, 0, at(api.Toggle, 1, 0), nil)
				walk(t, x, 0, 0, api.Taken)
				x.Step(0, 0)
				takes(t, x, 3, 0, at(api.Claim, 1, 0), nil)
			}
		}
	}
}

// Claim of a slot that somebody waits in by now, or was met in by now.
func TestClaimTooLate(t *testing.T) {
	for kind := 0; kind <= 1; kind++ {
		for _, o := range ops(kind) {
			x := begin(t, kind, 1, 1, 1, 4, 5, 0, 16)
			claims(t, x, o, 0, 0)
			claims(t, x, o, 1, 0)
			claims(t, x, o, 2, 0)
			claims(t, x, o, 3, 0)
			takes(t, x, 2, 0, at(api.Wait, 1, 0), func(n *api.Node) { n.Waiting[0] = 2 })
			takes(t, x, 0, 0, at(api.Grow, 1, 0), nil)
			sees(t, x, o, 4, 0)
			takes(t, x, 4, 0, at(api.Enter, 3, 0), nil)
			takes(t, x, 1, 0, at(api.Grow, 1, 0), nil)
			walk(t, x, 2, 0, api.Taken)
			takes(t, x, 2, 0, at(api.Enter, 2, 0), func(n *api.Node) { n.Waiting[0] = api.None })
			takes(t, x, 3, 0, at(api.Wait, 1, 0), func(n *api.Node) { n.Waiting[0] = 3 })
		}
	}
}

// A patience of each Spin that runs out: so many looks, and one more.
func TestPatienceRunsOut(t *testing.T) {
	for kind := 0; kind <= 1; kind++ {
		for _, o := range ops(kind) {
			for spin := 0; spin <= 8; spin++ {
				x := begin(t, kind, 2, 2, 1, 2, spin, 0, 16)
				waits(t, x, o, 0, 0)
				for range spin {
					takes(t, x, 0, 0, at(api.Wait, 1, 0), nil)
				}
				takes(t, x, 0, 0, at(api.Shrink, 1, 0), func(n *api.Node) { n.Waiting[0] = api.None })
				takes(t, x, 0, 0, at(api.Toggle, 1, 0), nil)
				walk(t, x, 0, 0, api.Enter, api.Look, api.Wide, api.Slot, api.Claim, api.Wait)
				for range spin {
					walk(t, x, 0, 0, api.Wait)
				}
				walk(t, x, 0, 0, api.Shrink)
			}
		}
	}
}

// Who was met in its slot goes on from there, however much patience is left;
// and stays met, however late it looks. At the next node its patience is Spin
// again, and no more.
func TestMetAtEachPatience(t *testing.T) {
	inc := api.Op{Kind: api.Inc}
	for spin := 0; spin <= 8; spin++ {
		for looks := 0; looks <= spin; looks++ {
			x := begin(t, 0, 2, 2, 1, 2, spin, 0, 16)
			waits(t, x, inc, 0, 0)
			for range looks {
				walk(t, x, 0, 0, api.Wait)
			}
			sees(t, x, inc, 1, 0)
			takes(t, x, 1, 0, at(api.Enter, 3, 0), nil)
			finish(t, x, 1)
			takes(t, x, 0, 0, at(api.Taken, 1, 0), nil)
			takes(t, x, 0, 0, at(api.Enter, 2, 0), func(n *api.Node) { n.Waiting[0] = api.None })
			walk(t, x, 0, 0, api.Look, api.Wide, api.Slot, api.Claim, api.Wait)
			for range spin {
				walk(t, x, 0, 0, api.Wait)
			}
			walk(t, x, 0, 0, api.Shrink)
		}
	}
}

// Two of one kind part: who waited goes to child 0, who met it to child 1. The
// toggle does not matter, and stays.
func TestMeetOfOneKind(t *testing.T) {
	for kind := 0; kind <= 1; kind++ {
		for _, o := range ops(kind) {
			for before := 0; before <= 1; before++ {
				x := begin(t, kind, 1, 1, 2, 1, 0, 0, 16)
				for p := 0; p < before; p++ {
					spawn(t, x, o, p)
					walk(t, x, p, 0, pastInner...)
				}
				waits(t, x, o, before, 0)
				sees(t, x, o, before+1, 0)
				takes(t, x, before+1, 0, at(api.Enter, 3, 0), nil)
				takes(t, x, before, 0, at(api.Taken, 1, 0), nil)
				takes(t, x, before, 0, at(api.Enter, 2, 0), func(n *api.Node) { n.Waiting[0] = api.None })
			}
		}
	}
}

// Two Puts part whatever their values; what they put is what lies in the leaves.
func TestMeetOfTwoPuts(t *testing.T) {
	for _, v := range []struct{ a, b int }{{1, 1}, {0, 0}, {7, -7}, {math.MinInt, math.MaxInt}} {
		x := begin(t, 1, 1, 1, 1, 1, 0, 0, 2)
		waits(t, x, api.Op{Kind: api.Put, Val: v.a}, 0, 0)
		sees(t, x, api.Op{Kind: api.Put, Val: v.b}, 1, 0)
		finish(t, x, 1)
		finish(t, x, 0)
		a, b := nodeOf(t, x, 2), nodeOf(t, x, 3)
		if len(a.Items) != 1 || len(b.Items) != 1 || a.Items[0] != v.a || b.Items[0] != v.b {
			t.Errorf("P7: leaves %+v, %+v, want %+v", a, b, v)
		}
	}
}

// A Get meets a Put that waits: the value is handed over at once to the Get,
// the Put finds out later; neither gets to a leaf.
func TestGetMeetsPut(t *testing.T) {
	for _, val := range append(far(), -1, 0, 1) {
		x := begin(t, 1, 2, 2, 1, 1, 0, 0, 3)
		waits(t, x, api.Op{Kind: api.Put, Val: val}, 0, 0)
		sees(t, x, api.Op{Kind: api.Get, Val: 3}, 1, 0)
		takes(t, x, 1, 0, at(api.Leave, 1, val), nil)
		takes(t, x, 1, 0, at(api.Done, 0, val), falls)
		takes(t, x, 0, 0, at(api.Taken, 1, 0), nil)
		takes(t, x, 0, 0, at(api.Leave, 1, 0), func(n *api.Node) { n.Waiting[0] = api.None })
		takes(t, x, 0, 0, at(api.Done, 0, 0), falls)
	}
}

// A Put meets a Get that waits: the Get has the value only once it finds out,
// when the Put may be Done long since and others may have come.
func TestPutMeetsGet(t *testing.T) {
	for _, val := range append(far(), -1, 0, 1) {
		x := begin(t, 1, 2, 2, 1, 1, 0, 0, 3)
		waits(t, x, api.Op{Kind: api.Get, Val: 3}, 0, 0)
		sees(t, x, api.Op{Kind: api.Put, Val: val}, 1, 0)
		takes(t, x, 1, 0, at(api.Leave, 1, 0), nil)
		takes(t, x, 1, 0, at(api.Done, 0, 0), falls)
		takes(t, x, 0, 0, at(api.Taken, 1, 0), nil)
		spawn(t, x, api.Op{Kind: api.Put, Val: 12}, 2)
		spawn(t, x, api.Op{Kind: api.Get}, 3)
		walk(t, x, 2, 0, api.Look, api.Wide, api.Slot, api.Toggle)
		takes(t, x, 0, 0, at(api.Leave, 1, val), func(n *api.Node) { n.Waiting[0] = api.None })
		takes(t, x, 0, 0, at(api.Done, 0, val), falls)
		stands(t, x, 1, at(api.Done, 0, 0))
	}
}

// Meetings below the root: children are counted from the node of the meeting,
// and who leaves goes up from there.
func TestMeetBelow(t *testing.T) {
	x := begin(t, 1, 3, 3, 1, 1, 1, 0, 16)
	put, get := api.Op{Kind: api.Put, Val: 6}, api.Op{Kind: api.Get}
	for p, o := range []api.Op{put, put, put, put} {
		spawn(t, x, o, p)
		walk(t, x, p, 0, api.Look, api.Wide, api.Slot, api.Claim, api.Wait, api.Wait, api.Shrink, api.Toggle, api.Enter)
	}
	walk(t, x, 1, 0, api.Look, api.Wide, api.Slot, api.Claim, api.Wait)
	walk(t, x, 3, 0, api.Look, api.Wide, api.Slot, api.Meet)
	takes(t, x, 3, 0, at(api.Enter, 7, 0), nil)
	takes(t, x, 1, 0, at(api.Taken, 3, 0), nil)
	takes(t, x, 1, 0, at(api.Enter, 6, 0), func(n *api.Node) { n.Waiting[0] = api.None })
	walk(t, x, 0, 0, api.Look, api.Wide, api.Slot, api.Claim, api.Wait)
	spawn(t, x, get, 4)
	spawn(t, x, get, 5)
	walk(t, x, 4, 0, api.Look, api.Wide, api.Slot, api.Claim, api.Wait, api.Wait, api.Shrink, api.Toggle, api.Enter)
	walk(t, x, 5, 0, api.Look, api.Wide, api.Slot, api.Claim, api.Wait, api.Wait, api.Shrink, api.Toggle, api.Enter)
	stands(t, x, 5, at(api.Enter, 2, 0))
	walk(t, x, 5, 0, api.Look, api.Wide, api.Slot, api.Meet)
	takes(t, x, 5, 0, at(api.Leave, 2, 6), nil)
	takes(t, x, 5, 0, at(api.Leave, 1, 6), falls)
	takes(t, x, 0, 0, at(api.Taken, 2, 0), nil)
	takes(t, x, 0, 0, at(api.Leave, 2, 0), func(n *api.Node) { n.Waiting[0] = api.None })
	takes(t, x, 0, 0, at(api.Leave, 1, 0), falls)
}

// Who was seen waiting has gone: the slot is free.
func TestMeetOneThatHasGone(t *testing.T) {
	for kind := 0; kind <= 1; kind++ {
		for _, o := range ops(kind) {
			for _, other := range ops(kind) {
				x := begin(t, kind, 1, 1, 1, 4, 0, 0, 16)
				waits(t, x, o, 0, 0)
				sees(t, x, other, 1, 0)
				walk(t, x, 0, 0, api.Shrink)
				takes(t, x, 1, 0, at(api.Grow, 1, 0), nil)
			}
		}
	}
}

// Who was seen waiting has gone, and another waits in the slot: that one was
// not seen, and is not met.
func TestMeetAnotherThanSeen(t *testing.T) {
	for kind := 0; kind <= 1; kind++ {
		for _, o := range ops(kind) {
			for _, other := range ops(kind) {
				x := begin(t, kind, 1, 1, 1, 4, 0, 0, 16)
				waits(t, x, o, 0, 0)
				sees(t, x, other, 1, 0)
				walk(t, x, 0, 0, api.Shrink)
				waits(t, x, o, 2, 0)
				takes(t, x, 1, 0, at(api.Grow, 1, 0), nil)
				takes(t, x, 2, 0, at(api.Shrink, 1, 0), func(n *api.Node) { n.Waiting[0] = api.None })
			}
		}
	}
}

// Who was seen waiting was met by somebody else, who stays the one that met it.
func TestMeetOneThatWasMet(t *testing.T) {
	for kind := 0; kind <= 1; kind++ {
		for _, o := range ops(kind) {
			for _, other := range ops(kind) {
				x := begin(t, kind, 1, 1, 1, 4, 3, 0, 16)
				waits(t, x, o, 0, 0)
				sees(t, x, other, 1, 0)
				sees(t, x, o, 2, 0)
				takes(t, x, 2, 0, at(api.Enter, 3, 0), nil)
				takes(t, x, 1, 0, at(api.Grow, 1, 0), nil)
				walk(t, x, 0, 0, api.Taken)
				takes(t, x, 0, 0, at(api.Enter, 2, 0), func(n *api.Node) { n.Waiting[0] = api.None })
			}
		}
	}
}

// Grow and Shrink go by the width that the process read, whatever it is by now.
func TestGrowFromWhatWasRead(t *testing.T) {
	inc := api.Op{Kind: api.Inc}
	for often, want := range []int{2, 4, 4} {
		x, p := wide(t, 4, 1, often)
		late := p
		claims(t, x, inc, late, 0)
		p = widen(t, x, p+1)
		p = widen(t, x, p)
		waits(t, x, inc, p, 0)
		takes(t, x, late, 0, at(api.Grow, 1, 0), nil)
		takes(t, x, late, 0, at(api.Toggle, 1, 0), func(n *api.Node) { n.Width = want })
	}
}

func TestShrinkFromWhatWasRead(t *testing.T) {
	inc := api.Op{Kind: api.Inc}
	halves := [][]int{1: {1, 1, 1}, 2: {1, 1, 1}, 3: {1, 1, 1}, 4: {1, 1, 2}}
	for width := 1; width <= 4; width++ {
		for often, want := range halves[width] {
			x, p := wide(t, width, 0, often)
			late := p
			claims(t, x, inc, late, 0)
			p = widen(t, x, p+1)
			widen(t, x, p)
			walk(t, x, late, 0, api.Wait, api.Shrink)
			takes(t, x, late, 0, at(api.Toggle, 1, 0), func(n *api.Node) { n.Width = want })
		}
	}
}

// A width shrinks step by step to 1, and no further.
func TestWidthShrinksToItsBound(t *testing.T) {
	x, p := wide(t, 4, 0, 2)
	for _, want := range []int{2, 1, 1, 1} {
		spawn(t, x, api.Op{Kind: api.Inc}, p)
		walk(t, x, p, 0, api.Look, api.Wide, api.Slot, api.Claim, api.Wait, api.Shrink)
		takes(t, x, p, 0, at(api.Toggle, 1, 0), func(n *api.Node) { n.Width = want })
		finish(t, x, p)
		p++
	}
}

// A width that shrinks leaves those in the slots beyond it where they are.
func TestSlotsBeyondTheWidth(t *testing.T) {
	inc := api.Op{Kind: api.Inc}
	x, p := wide(t, 4, 0, 2)
	waits(t, x, inc, p, 3)
	sees(t, x, inc, p+1, 3)
	spawn(t, x, inc, p+2)
	walk(t, x, p+2, 0, api.Look, api.Wide, api.Slot, api.Claim, api.Wait, api.Shrink, api.Toggle)
	takes(t, x, p+1, 0, at(api.Enter, 3, 0), nil)
	if n := nodeOf(t, x, 1); n.Width != 2 || n.Waiting[3] != p {
		t.Errorf("P7: root %+v", n)
	}
	takes(t, x, p, 0, at(api.Taken, 1, 0), nil)
	takes(t, x, p, 0, at(api.Enter, 2, 0), func(n *api.Node) { n.Waiting[3] = api.None })
}
