package prism

import "prism/api"

// stepAtTarget lets the process q take a step of those by which a Fold or an
// Unfold changes its target, its node n.
func (t *Tree) stepAtTarget(q *process, n *node) {
	switch q.phase {
	case api.Shut:
		q.shutGate(n, t.conf.Drain)
	case api.Drain:
		q.drain(n)
	case api.Change:
		q.val = t.change(q.op)
		n.shut = false
		q.leave()
	case api.Reopen:
		n.shut = false
		q.val = api.NotEmpty
		q.leave()
	}
}

// shutGate shuts the gate of the target n, unless another has shut it, or n is
// not of the kind that the process can change.
func (q *process) shutGate(n *node, patience int) {
	folds := q.op.Kind == api.Fold
	if n.shut || n.inner != folds {
		q.val = api.NotThere
		q.leave()
		return
	}
	n.shut = true
	q.patience = patience
	q.phase = api.Drain
}

// drain looks whether everybody has left the target n.
func (q *process) drain(n *node) {
	switch {
	case n.inside == 0:
		q.phase = api.Change
	case q.patience > 0:
		q.patience--
	default:
		q.phase = api.Reopen
	}
}

// change does the operation o, a Fold or an Unfold, at its target, and tells
// how it ended. A target lies above the greatest depth, so its children have
// numbers of nodes.
func (t *Tree) change(o api.Op) int {
	if o.Kind == api.Unfold {
		t.unfold(o.Node)
		return api.Changed
	}
	if t.nodes[2*o.Node].inner || t.nodes[2*o.Node+1].inner {
		return api.NotLeaves
	}
	t.fold(o.Node)
	return api.Changed
}

// fold makes a leaf of node v and its children, two leaves. Nobody is at them,
// so no ticket is waited for: those of what lies begin anew.
func (t *Tree) fold(v int) {
	zero := t.nodes[2*v]
	one := t.nodes[2*v+1]
	whole := node{there: true, inside: t.nodes[v].inside}
	if t.conf.Kind == api.Counter {
		whole.puts = zero.puts + one.puts
	} else {
		first := zero.values()
		second := one.values()
		whole.layInTurn(first, second)
	}
	t.nodes[v] = whole
	t.nodes[2*v] = node{}
	t.nodes[2*v+1] = node{}
}

// layInTurn lays the values of two lists down in a leaf, one of each in turn.
func (n *node) layInTurn(first []int, second []int) {
	for i := 0; i < len(first) || i < len(second); i++ {
		if i < len(first) {
			n.lay(first[i])
		}
		if i < len(second) {
			n.lay(second[i])
		}
	}
}

// lay lays a value down in a leaf, under a ticket of its own.
func (n *node) lay(val int) {
	n.items = append(n.items, item{state: itemLies, val: val})
	n.puts++
}

// unfold gives the leaf v two leaves as children. They and the toggle are as if
// all that the leaf has had come through v one by one.
func (t *Tree) unfold(v int) {
	whole := t.nodes[v]
	zero := node{there: true}
	one := node{there: true}
	if t.conf.Kind == api.Counter {
		one.puts = whole.puts / 2
		zero.puts = whole.puts - one.puts
	} else {
		list := whole.values()
		for i := 0; i < len(list); i++ {
			if i%2 == 0 {
				zero.lay(list[i])
			} else {
				one.lay(list[i])
			}
		}
	}
	toggle := (zero.puts + one.puts) % 2
	t.nodes[v] = node{there: true, inner: true, inside: whole.inside, toggle: toggle, width: 1}
	t.nodes[2*v] = zero
	t.nodes[2*v+1] = one
}
