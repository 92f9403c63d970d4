package lts

import (
	"slices"

	"withe/api"
	"withe/eval"
	"withe/wrap"
)

// way is one way through a thread's statements, as far as it has come. Statements are walked by its method values, which hand on what is left behind them; those that bring Reads hand it on once for each value.
type way struct {
	tree   *api.Tree // in the making
	thread int
	up     int   // the node that was brought last
	vals   []int // what the registers have
}

// step walks one statement, and then what is left behind it.
type step func(s api.Stmt, left []api.Stmt)

// begin is the way from the Begin of the thread whose registers t was given last.
func begin(t *api.Tree) way {
	thread := len(t.Regs) - 1
	w := way{tree: t, thread: thread, up: -1, vals: make([]int, len(t.Regs[thread]))}
	return w.bring(api.Node{Kind: api.Begin})
}

// walk goes through what is left. It goes no further once there are more nodes than may be, as there is no tree then.
func (w way) walk(left []api.Stmt) {
	switch {
	case full(w.tree):
		return
	case len(left) == 0:
		w.end()
	default:
		w.stepOf(left[0].Kind)(left[0], left[1:])
	}
}

// stepOf is what walks statements of that Kind, which is one.
func (w way) stepOf(kind int) step {
	switch kind {
	case api.Set:
		return w.set
	case api.Load:
		return w.load
	case api.Store:
		return w.store
	case api.Add:
		return w.add
	case api.Cas:
		return w.cas
	case api.Fence:
		return w.fence
	}
	return w.fork
}

// end makes the last node an End.
func (w way) end() {
	last := &w.tree.Nodes[w.up]
	last.End, last.Regs = true, slices.Clone(w.vals)
}

func (w way) set(s api.Stmt, left []api.Stmt) {
	w.with(s.Reg, w.value(s.Args[0])).walk(left)
}

// fork goes on with one side of an If ahead of what is left behind it.
func (w way) fork(s api.Stmt, left []api.Stmt) {
	side := s.Else
	if w.value(s.Args[0]) != 0 {
		side = s.Then
	}
	w.walk(slices.Concat(side, left))
}

func (w way) load(s api.Stmt, left []api.Stmt) {
	w.reads(s, left, func(int) (int, bool) { return 0, false })
}

func (w way) store(s api.Stmt, left []api.Stmt) {
	w.bring(w.access(api.Write, s, w.value(s.Args[0]))).walk(left)
}

func (w way) add(s api.Stmt, left []api.Stmt) {
	more := w.value(s.Args[0])
	w.reads(s, left, func(v int) (int, bool) { return wrap.Add(v, more, w.tree.Vals), true })
}

func (w way) cas(s api.Stmt, left []api.Stmt) {
	from, to := w.value(s.Args[0]), w.value(s.Args[1])
	w.reads(s, left, func(v int) (int, bool) { return to, v == from })
}

func (w way) fence(s api.Stmt, left []api.Stmt) {
	w.bring(api.Node{Kind: api.Bar, Mode: s.Mode}).walk(left)
}

// reads brings a Read of each value, and goes on beneath each. In one with the Read of v there is a Write of what inOne tells of v, or none.
func (w way) reads(s api.Stmt, left []api.Stmt, inOne func(v int) (int, bool)) {
	for v := range w.tree.Vals {
		on := w.bring(w.access(api.Read, s, v))
		if to, ok := inOne(v); ok {
			n := w.access(api.Write, s, to)
			n.Rmw = true
			on = on.bring(n)
		}
		on.with(s.Reg, v).walk(left)
	}
}

// access is a node of that Kind, with s's location and mode.
func (w way) access(kind int, s api.Stmt, v int) api.Node {
	return api.Node{Kind: kind, Loc: slices.Index(w.tree.Locs, s.Loc), Mode: s.Mode, Val: v}
}

// bring is the way behind one node more.
func (w way) bring(n api.Node) way {
	n.Thread, n.Up = w.thread, w.up
	w.up = len(w.tree.Nodes)
	w.tree.Nodes = append(w.tree.Nodes, n)
	return w
}

// with is the way with a register set. Other ways keep what theirs have.
func (w way) with(reg string, v int) way {
	w.vals = slices.Clone(w.vals)
	w.vals[slices.Index(w.tree.Regs[w.thread], reg)] = v
	return w
}

// value is what e comes to: it does, as check has asked e.
func (w way) value(e api.Expr) int {
	v, _ := eval.Expr(e, w.tree.Regs[w.thread], w.vals, w.tree.Vals)
	return v
}
