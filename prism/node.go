package prism

import "prism/api"

// nodeNumbers is one more than the greatest number of a node. Number 0 is
// nobody's, so that a node's number is its index.
const nodeNumbers = 2 << api.MaxDepth

// The states of a slot. Free is 0, so that the slots of a new node are free.
const (
	slotFree  = 0
	slotWaits = 1
	slotMet   = 2
)

// slot is a place of an inner node where two processes can meet.
type slot struct {
	state int
	who   int // who waits here or was met here, unless the slot is free
	by    int // who met it, if it was met
}

// The states of what a leaf of a pool has under a ticket. Awaited is 0, so that
// a ticket that was just handed out has no item yet.
const (
	itemAwaited = 0
	itemLies    = 1
	itemTaken   = 2
)

// item is what a leaf of a pool has under a ticket.
type item struct {
	state int
	val   int // the value, if it lies
}

// node is what a node of the tree holds; its number is its index in the tree.
type node struct {
	there, inner, shut bool
	inside             int

	// Of an inner node.
	toggle, width int
	slots         [api.MaxWidth]slot

	// Of a leaf. The ticket of an item is its index: a Put must know whether
	// an item was taken away or never lay, so all tickets of Puts stay.
	puts, gets int
	items      []item
}

// firstOfDepth is the least number of a node of depth d: 2^d.
func firstOfDepth(d int) int {
	first := 1
	for i := 0; i < d; i++ {
		first *= 2
	}
	return first
}

// place tells depth and rank of node v. The steps from the root down to v are
// the digits of v behind its leading 1, the last step lowest; in the rank the
// first step is lowest.
func place(v int) (int, int) {
	depth := 0
	rank := 0
	for v > 1 {
		rank = 2*rank + v%2
		v /= 2
		depth++
	}
	return depth, rank
}

// plant lays out the nodes that are there at the beginning.
func (t *Tree) plant() {
	firstLeaf := firstOfDepth(t.conf.Start)
	for v := 1; v < 2*firstLeaf && v < len(t.nodes); v++ {
		if v < firstLeaf {
			t.nodes[v] = node{there: true, inner: true, width: 1}
		} else {
			t.nodes[v] = node{there: true}
		}
	}
}

// tell lays out what Nodes says of n, which is node v; width is how many slots
// it has. Every list is made here, so that the caller may write into it.
func (n *node) tell(v int, width int) api.Node {
	depth, rank := place(v)
	told := api.Node{Num: v, Depth: depth, Rank: rank, Inner: n.inner, Shut: n.shut, Inside: n.inside}
	if n.inner {
		told.Toggle = n.toggle
		told.Width = n.width
		told.Waiting = n.waiting(width)
	} else {
		told.Puts = n.puts
		told.Gets = n.gets
		told.Items = n.values()
	}
	return told
}

// waiting lists by slot who waits or was met there, or None.
func (n *node) waiting(width int) []int {
	var list []int
	for i := 0; i < width && i < len(n.slots); i++ {
		who := api.None
		if n.slots[i].state != slotFree {
			who = n.slots[i].who
		}
		list = append(list, who)
	}
	return list
}

// values lists the values of the items that lie in a leaf, in their order.
func (n *node) values() []int {
	var list []int
	for i := 0; i < len(n.items); i++ {
		if n.items[i].state == itemLies {
			list = append(list, n.items[i].val)
		}
	}
	return list
}
