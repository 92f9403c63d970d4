package show

import (
	"strings"

	"withe/api"
)

// step is how many blanks a block's statements stand further in than the line that it is in.
const step = 2

func (w *page) indent() {
	w.say(strings.Repeat(" ", w.margin))
}

// block ends behind its bracket, not at a line's end: an else may follow.
func (w *page) block(l []api.Stmt) {
	w.say("{\n")
	w.margin += step
	for _, s := range l {
		w.stmt(s)
	}
	w.margin -= step
	w.indent()
	w.say("}")
}

// stmt writes no line, not even its blanks, of a Kind that is none.
func (w *page) stmt(s api.Stmt) {
	show := w.stmtOf(s.Kind)
	if show == nil {
		return
	}
	w.indent()
	show(s)
	w.say("\n")
}

// stmtOf is what shows statements of that Kind; nil, if it is none.
func (w *page) stmtOf(kind int) func(api.Stmt) {
	switch kind {
	case api.Set:
		return w.set
	case api.Load:
		return w.load
	case api.Store:
		return w.store
	case api.Add:
		return w.add
	case api.Cas:
		return w.cas
	case api.Fence:
		return w.fence
	case api.If:
		return w.choice
	}
	return nil
}

func (w *page) set(s api.Stmt) {
	w.say(s.Reg, " = ")
	at(s.Args, 0, w.expr)
	w.say(";")
}

func (w *page) load(s api.Stmt) {
	w.say(s.Reg, " = load ", Mode(s.Mode), " ", s.Loc, ";")
}

func (w *page) store(s api.Stmt) {
	w.say("store ", Mode(s.Mode), " ", s.Loc, " ")
	at(s.Args, 0, w.expr)
	w.say(";")
}

func (w *page) add(s api.Stmt) {
	w.say(s.Reg, " = add ", Mode(s.Mode), " ", s.Loc, " ")
	at(s.Args, 0, w.expr)
	w.say(";")
}

func (w *page) cas(s api.Stmt) {
	w.say(s.Reg, " = cas ", Mode(s.Mode), " ", s.Loc, " ")
	at(s.Args, 0, w.expr)
	w.say(", ")
	at(s.Args, 1, w.expr)
	w.say(";")
}

func (w *page) fence(s api.Stmt) {
	w.say("fence ", Mode(s.Mode), ";")
}

func (w *page) choice(s api.Stmt) {
	w.say("if ")
	at(s.Args, 0, w.expr)
	w.say(" ")
	w.block(s.Then)
	if len(s.Else) > 0 {
		w.say(" else ")
		w.block(s.Else)
	}
}

// asks is the word of what is asked; nothing, of a number that is none.
func asks(ask int) string {
	switch ask {
	case api.Exists:
		return "exists"
	case api.Forall:
		return "forall"
	}
	return ""
}

func (w *page) cell(c api.Cell) {
	w.say("init ", c.Loc, " ")
	w.number(c.N)
	w.say("\n")
}

func (w *page) thread(l []api.Stmt) {
	w.say("thread ")
	w.block(l)
	w.say("\n")
}

func (w *page) prog(p api.Prog) {
	w.say("litmus ", p.Name, " values ")
	w.number(p.Vals)
	w.say("\n")
	for _, c := range p.Init {
		w.cell(c)
	}
	for _, l := range p.Threads {
		w.thread(l)
	}
	w.say(asks(p.Ask), " ")
	w.cond(p.Cond)
	w.say("\n")
}
