package lts

import (
	"slices"

	"withe/api"
)

// look goes through a tree's nodes in the order in which Build brings them, and asks whether each one may stand where it stands.
type look struct {
	tree   api.Tree
	thread int // that is gone through
	next   int // the first node that was not gone through
}

// label is what a node is, beside what goes with Ends.
type label struct {
	thread, up, kind, loc, mode, val int
	rmw                              bool
}

func labelOf(n api.Node) label {
	return label{n.Thread, n.Up, n.Kind, n.Loc, n.Mode, n.Val, n.Rmw}
}

// names asks all but the nodes, and how many of these there are.
func (l *look) names() bool {
	t := l.tree
	if t.Vals < 2 || t.Vals > api.MaxVals || len(t.Nodes) > api.MaxNodes {
		return false
	}
	if len(t.Regs) == 0 || len(t.Regs) > api.MaxThreads || !few(t.Locs, api.MaxLocs) {
		return false
	}
	for _, regs := range t.Regs {
		if !few(regs, api.MaxRegs) {
			return false
		}
	}
	return true
}

// few tells whether there are no more names than most, none twice.
func few(names []string, most int) bool {
	if len(names) > most {
		return false
	}
	for i, name := range names {
		if slices.Contains(names[:i], name) {
			return false
		}
	}
	return true
}

func (l *look) firstWrites() bool {
	for i := range l.tree.Locs {
		if l.next == len(l.tree.Nodes) {
			return false
		}
		n := l.tree.Nodes[l.next]
		if !l.take(labelOf(firstWrite(i, n.Val))) || !l.value(n.Val) || !within(n) {
			return false
		}
	}
	return true
}

func (l *look) threads() bool {
	for l.thread = range l.tree.Regs {
		n := l.next
		if !l.take(label{thread: l.thread, up: -1, kind: api.Begin}) || !l.beneath(n) {
			return false
		}
	}
	return l.next == len(l.tree.Nodes)
}

// take goes through one node, which is to be as told.
func (l *look) take(as label) bool {
	if l.next == len(l.tree.Nodes) || labelOf(l.tree.Nodes[l.next]) != as {
		return false
	}
	l.next++
	return true
}

// beneath goes through what is beneath the node n, through which it went last.
func (l *look) beneath(n int) bool {
	if l.next == len(l.tree.Nodes) || l.tree.Nodes[l.next].Up != n {
		return l.end(l.tree.Nodes[n])
	}
	kids := l.kidsOf(l.tree.Nodes[l.next].Kind)
	return within(l.tree.Nodes[n]) && kids != nil && kids(n)
}

// kidsOf is what goes through a node's Kids of that Kind and what is beneath these; nil, if there are none of it.
func (l *look) kidsOf(kind int) func(up int) bool {
	switch kind {
	case api.Read:
		return l.reads
	case api.Write:
		return l.write
	case api.Bar:
		return l.bar
	}
	return nil
}

// end tells whether n may be behind all of its thread's statements.
func (l *look) end(n api.Node) bool {
	return n.End && len(n.Regs) == len(l.tree.Regs[l.thread]) && !slices.ContainsFunc(n.Regs, func(v int) bool { return !l.value(v) })
}

// within tells whether n may have something behind it.
func within(n api.Node) bool {
	return !n.End && len(n.Regs) == 0
}

// reads goes through Reads of each value, side by side.
func (l *look) reads(up int) bool {
	first := l.tree.Nodes[l.next]
	inOne := false
	for v := range l.tree.Vals {
		n := l.next
		if !l.take(label{l.thread, up, api.Read, first.Loc, first.Mode, v, false}) || !l.beneath(n) {
			return false
		}
		inOne = inOne || n+1 < l.next && l.tree.Nodes[n+1].Rmw
	}
	return l.location(first.Loc) && slices.Contains(readModes(inOne), first.Mode)
}

// readModes are those that Reads may have, if one of them is in one with a Write, or if none is.
func readModes(inOne bool) []int {
	if inOne {
		return []int{api.Rlx, api.Acq, api.Rel, api.AcqRel, api.Sc}
	}
	return []int{api.Rlx, api.Acq, api.Sc}
}

func (l *look) write(up int) bool {
	at, ahead := l.next, l.tree.Nodes[up]
	n := l.tree.Nodes[at]
	as := label{l.thread, up, api.Write, n.Loc, n.Mode, n.Val, n.Rmw}
	if n.Rmw {
		as.loc, as.mode = ahead.Loc, ahead.Mode
	}
	if !l.take(as) || !l.location(n.Loc) || !l.value(n.Val) {
		return false
	}
	if n.Rmw && ahead.Kind != api.Read || !n.Rmw && !slices.Contains([]int{api.Rlx, api.Rel, api.Sc}, n.Mode) {
		return false
	}
	return l.beneath(at)
}

func (l *look) bar(up int) bool {
	at := l.next
	mode := l.tree.Nodes[at].Mode
	return l.take(label{thread: l.thread, up: up, kind: api.Bar, mode: mode}) && mode >= api.Acq && mode <= api.Sc && l.beneath(at)
}

func (l *look) location(n int) bool {
	return 0 <= n && n < len(l.tree.Locs)
}

func (l *look) value(v int) bool {
	return 0 <= v && v < l.tree.Vals
}
