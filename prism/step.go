package prism

import "prism/api"

// step lets process p, which is there and live, take a step. A live process
// stands at a node that is there, so its node is an index of nodes.
func (t *Tree) step(p int, draw int) {
	q := &t.procs[p]
	n := &t.nodes[q.node]
	switch q.phase {
	case api.Enter:
		n.inside++
		q.phase = api.Look
	case api.Look:
		q.look(n)
	case api.Back:
		n.inside--
		q.phase = api.Enter
	case api.Wide, api.Slot, api.Claim, api.Wait, api.Taken, api.Meet, api.Grow, api.Shrink:
		t.stepAtSlot(p, draw)
	case api.Toggle:
		q.turn(n)
	case api.Ticket, api.Store, api.Fetch:
		t.stepAtLeaf(q, n)
	case api.Shut, api.Drain, api.Change, api.Reopen:
		t.stepAtTarget(q, n)
	case api.Leave:
		n.inside--
		q.leave()
	}
}

// round lets every live process take a step, by rising numbers. The draw is that
// of process 0; each further number's is one more.
func (t *Tree) round(draw int) {
	for p := 0; p < len(t.procs); p++ {
		if t.procs[p].phase != api.Done {
			t.step(p, draw+p)
		}
	}
}

// look finds out how the process goes on at its node.
func (q *process) look(n *node) {
	switch {
	case n.shut:
		q.phase = api.Back
	case changes(q.op):
		q.seek(n)
	case n.inner:
		q.phase = api.Wide
	default:
		q.phase = api.Ticket
	}
}

// seek lets a Fold or an Unfold go on towards its target.
func (q *process) seek(n *node) {
	if !n.inner {
		q.val = api.NotThere
		q.phase = api.Leave
		return
	}
	q.node = childTowards(q.node, q.op.Node)
	if q.node == q.op.Node {
		q.phase = api.Shut
	} else {
		q.phase = api.Enter
	}
}

// childTowards is the child of node v that is the node below, or above it;
// below is a node below v.
func childTowards(v int, below int) int {
	child := below
	for child/2 > v {
		child /= 2
	}
	return child
}

// turn turns the toggle over. A Get goes to the child that the last Put went
// to: that is why it looks at the toggle behind that.
func (q *process) turn(n *node) {
	before := n.toggle
	n.toggle = 1 - before
	if q.op.Kind == api.Get {
		q.descend(n.toggle)
	} else {
		q.descend(before)
	}
}

// descend goes to child b of the process's node.
func (q *process) descend(b int) {
	q.node = 2*q.node + b
	q.phase = api.Enter
}

// leave goes on to the parent. The root's is 0: there the process is done.
func (q *process) leave() {
	q.node /= 2
	if q.node == 0 {
		q.phase = api.Done
	} else {
		q.phase = api.Leave
	}
}
