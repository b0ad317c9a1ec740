package prism

import "prism/api"

// stepAtLeaf lets the process q take a step of those at a leaf, its node n.
func (t *Tree) stepAtLeaf(q *process, n *node) {
	switch q.phase {
	case api.Ticket:
		q.takeTicket(n)
	case api.Store:
		room := t.room(q.node)
		q.store(n, room)
	case api.Fetch:
		q.fetch(n)
	}
}

// room is how many items the leaf v can hold: the root can hold as many as all
// leaves of the greatest depth, and each way down halves that.
func (t *Tree) room(v int) int {
	room := t.conf.Slots * firstOfDepth(t.conf.Depth)
	for u := v; u > 1; u /= 2 {
		room /= 2
	}
	return room
}

// takeTicket takes the process's turn at the leaf n. An Inc is done by that.
func (q *process) takeTicket(n *node) {
	switch q.op.Kind {
	case api.Inc:
		depth, rank := place(q.node)
		q.val = rank + firstOfDepth(depth)*n.puts
		n.puts++
		q.phase = api.Leave
	case api.Put:
		q.ticket = n.puts
		n.puts++
		n.items = append(n.items, item{})
		q.phase = api.Store
	case api.Get:
		q.ticket = n.gets
		n.gets++
		q.phase = api.Fetch
	}
}

// store lays the value of a Put down in the leaf n, if there is room for it.
func (q *process) store(n *node, room int) {
	if q.ticket >= len(n.items) || !n.hasRoom(q.ticket, room) {
		return
	}
	n.items[q.ticket] = item{state: itemLies, val: q.op.Val}
	q.phase = api.Leave
}

// hasRoom tells whether the item that was in the place of this ticket, so many
// tickets ahead as there is room, has been taken away, or there was none.
func (n *node) hasRoom(ticket int, room int) bool {
	ahead := ticket - room
	return ahead < 0 || ahead < len(n.items) && n.items[ahead].state == itemTaken
}

// fetch takes the item under the ticket of a Get away, if it lies.
func (q *process) fetch(n *node) {
	if q.ticket >= len(n.items) || n.items[q.ticket].state != itemLies {
		return
	}
	q.val = n.items[q.ticket].val
	n.items[q.ticket] = item{state: itemTaken}
	q.phase = api.Leave
}
