// Package prism: a tree that shares tokens out: see DOC.md.
package prism

import "prism/api"

// Tree is a tree with its processes.
type Tree struct {
	conf  api.Config
	nodes [nodeNumbers]node
	// Processes that are done stay: Proc goes on telling of them.
	procs []process
}

// New makes a tree (P3).
func New(c api.Config) (*Tree, api.Errno) {
	if !isConfig(c) {
		return nil, api.ErrConfig
	}
	t := &Tree{conf: c}
	t.plant()
	return t, api.OK
}

// Spawn begins a process (P4).
func (t *Tree) Spawn(o api.Op) (int, api.Errno) {
	if !hasOp(t.conf, o) {
		return 0, api.ErrOp
	}
	if len(t.procs) >= api.MaxSpawns {
		return 0, api.ErrSpent
	}
	if t.live() >= t.conf.Procs {
		return 0, api.ErrFull
	}
	number := len(t.procs)
	p := newProcess(o)
	t.procs = append(t.procs, p)
	return number, api.OK
}

// Proc tells where a process stands (P5).
func (t *Tree) Proc(p int) (api.Proc, api.Errno) {
	if p < 0 || p >= len(t.procs) {
		return api.Proc{}, api.ErrProc
	}
	q := t.procs[p]
	return api.Proc{Phase: q.phase, Node: q.node, Val: q.val}, api.OK
}

// Nodes tells of all nodes that are there (P5).
func (t *Tree) Nodes() []api.Node {
	var told []api.Node
	for v := 1; v < len(t.nodes); v++ {
		if t.nodes[v].there {
			n := t.nodes[v].tell(v, t.conf.Width)
			told = append(told, n)
		}
	}
	return told
}

// Step lets a process take a step (P6 to P9).
func (t *Tree) Step(p int, draw int) (int, api.Errno) {
	if p < 0 || p >= len(t.procs) || t.procs[p].phase == api.Done {
		return 0, api.ErrProc
	}
	t.step(p, draw)
	return t.procs[p].phase, api.OK
}

// Rest lets all live processes take steps, round by round (P10).
func (t *Tree) Rest(rounds int, draw int) (int, api.Errno) {
	if rounds < 0 || rounds > api.MaxRounds {
		return 0, api.ErrRounds
	}
	first := modulo(draw, api.Turns)
	for k := 0; k < rounds; k++ {
		t.round(first + k)
	}
	return t.live(), api.OK
}

// Play plays a script and tells the answers (P11).
func Play(c api.Config, text string) (string, api.Errno) {
	t, e := New(c)
	if e != api.OK {
		return "", e
	}
	list, good := readScript(text)
	if !good {
		return "", api.ErrText
	}
	answers := ""
	for i := 0; i < len(list); i++ {
		if i > 0 {
			answers += ";"
		}
		answer := t.play(list[i])
		answers += answer
	}
	return answers, api.OK
}
