package prism

import (
	"strconv"

	"prism/api"
)

// play does what a command of a script says, and tells the answer.
func (t *Tree) play(c command) string {
	switch c.letter {
	case 'i':
		return t.playSpawn(api.Op{Kind: api.Inc})
	case 'g':
		return t.playSpawn(api.Op{Kind: api.Get})
	case 'p':
		return t.playSpawn(api.Op{Kind: api.Put, Val: c.first})
	case 'f':
		return t.playSpawn(api.Op{Kind: api.Fold, Node: c.first})
	case 'u':
		return t.playSpawn(api.Op{Kind: api.Unfold, Node: c.first})
	case 's':
		phase, e := t.Step(c.first, c.second)
		return numberText(phase, e)
	case 'r':
		live, e := t.Rest(c.first, c.second)
		return numberText(live, e)
	case 'q':
		q, e := t.Proc(c.first)
		return procText(q, e)
	case 'l':
		return t.leavesText()
	}
	return ""
}

func (t *Tree) playSpawn(o api.Op) string {
	p, e := t.Spawn(o)
	return numberText(p, e)
}

// numberText is the answer of a call that told n, or the error e.
func numberText(n int, e api.Errno) string {
	if e != api.OK {
		return errorText(e)
	}
	return strconv.Itoa(n)
}

// procText is the answer of a Proc that told q, or the error e.
func procText(q api.Proc, e api.Errno) string {
	if e != api.OK {
		return errorText(e)
	}
	return strconv.Itoa(q.Phase) + "," + strconv.Itoa(q.Node) + "," + strconv.Itoa(q.Val)
}

func errorText(e api.Errno) string { return "!" + strconv.Itoa(int(e)) }

// leavesText is the answer that lists the leaves.
func (t *Tree) leavesText() string {
	list := t.Nodes()
	text := ""
	for i := 0; i < len(list); i++ {
		if list[i].Inner {
			continue
		}
		if text != "" {
			text += "|"
		}
		text += leafText(list[i])
	}
	return text
}

// leafText is what the list of the leaves says of one, n.
func leafText(n api.Node) string {
	text := strconv.Itoa(n.Num) + ":" + strconv.Itoa(n.Puts) + "," + strconv.Itoa(n.Gets)
	for i := 0; i < len(n.Items); i++ {
		text += "," + strconv.Itoa(n.Items[i])
	}
	return text
}
