package prism

import "prism/api"

// process is one that does an operation; its number is its index in the tree.
type process struct {
	op    api.Op
	phase int
	node  int
	val   int

	// What it has read at an inner node: the width, its slot, and who waited
	// in that slot.
	width, slot, mind int

	patience int

	ticket int // at a leaf of a pool
}

// newProcess is a process of the operation o that has taken no step yet.
func newProcess(o api.Op) process {
	p := process{op: o, phase: api.Enter, node: 1}
	// The root has no node above it to walk through: the process is at its
	// target already.
	if changes(o) && o.Node == 1 {
		p.phase = api.Shut
	}
	return p
}

// changes tells whether the operation o changes a node.
func changes(o api.Op) bool {
	return o.Kind == api.Fold || o.Kind == api.Unfold
}

// live counts the processes that are not done.
func (t *Tree) live() int {
	count := 0
	for i := 0; i < len(t.procs); i++ {
		if t.procs[i].phase != api.Done {
			count++
		}
	}
	return count
}
