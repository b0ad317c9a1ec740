package prism

import "prism/api"

// stepAtSlot lets process p take a step of those by which two meet at an inner
// node. Its slot is 0 or below a width that it read, so it is an index of slots.
func (t *Tree) stepAtSlot(p int, draw int) {
	q := &t.procs[p]
	n := &t.nodes[q.node]
	s := &n.slots[q.slot]
	switch q.phase {
	case api.Wide:
		q.width = n.width
		q.slot = modulo(draw, q.width)
		q.phase = api.Slot
	case api.Slot:
		q.lookAtSlot(s)
	case api.Claim:
		t.claim(p, s)
	case api.Wait:
		q.wait(s)
	case api.Taken:
		other := t.procs[s.by].op
		*s = slot{}
		q.settle(other, 0)
	case api.Meet:
		t.meet(p, s)
	case api.Grow:
		n.width = q.wider(t.conf.Width)
		q.phase = api.Toggle
	case api.Shrink:
		n.width = q.narrower()
		q.phase = api.Toggle
	}
}

// modulo is the number from 0 to w - 1 that differs from x by a multiple of w,
// which is above 0; % alone answers numbers below 0 for x below 0.
func modulo(x int, w int) int {
	if w < 1 {
		return 0
	}
	rest := x % w
	if rest < 0 {
		rest += w
	}
	return rest
}

// lookAtSlot finds out what can be done in the process's slot s.
func (q *process) lookAtSlot(s *slot) {
	switch s.state {
	case slotFree:
		q.phase = api.Claim
	case slotWaits:
		q.mind = s.who
		q.phase = api.Meet
	default:
		q.phase = api.Toggle
	}
}

// claim lets process p wait in its slot s, if it is free still.
func (t *Tree) claim(p int, s *slot) {
	q := &t.procs[p]
	if s.state != slotFree {
		q.phase = api.Grow
		return
	}
	*s = slot{state: slotWaits, who: p}
	q.patience = t.conf.Spin
	q.phase = api.Wait
}

// wait lets the process look whether it was met in its slot s.
func (q *process) wait(s *slot) {
	switch {
	case s.state == slotMet:
		q.phase = api.Taken
	case q.patience > 0:
		q.patience--
	default:
		*s = slot{}
		q.phase = api.Shrink
	}
}

// meet lets process p meet the one that it saw in its slot s. That one may have
// gone in between, and even another may wait there: this one was not seen.
func (t *Tree) meet(p int, s *slot) {
	q := &t.procs[p]
	if s.state != slotWaits || s.who != q.mind {
		q.phase = api.Grow
		return
	}
	s.state = slotMet
	s.by = p
	other := t.procs[s.who].op
	q.settle(other, 1)
}

// settle ends a meeting with the one that does the operation other: two of one
// kind part, and this process goes to child b; a Put and a Get hand the value
// over, and need no leaf.
func (q *process) settle(other api.Op, b int) {
	if q.op.Kind == other.Kind {
		q.descend(b)
		return
	}
	if q.op.Kind == api.Get {
		q.val = other.Val
	}
	q.phase = api.Leave
}

// wider is twice the width that the process read, but at most the number most.
func (q *process) wider(most int) int {
	if 2*q.width > most {
		return most
	}
	return 2 * q.width
}

// narrower is half the width that the process read, but at least 1.
func (q *process) narrower() int {
	if q.width < 2 {
		return 1
	}
	return q.width / 2
}
