package check_test

import (
	"slices"

	"withe/api"
)

// mixed is a row of numbers without order, the same at each run.
type mixed uint64

func (m *mixed) below(n int) int {
	*m = *m*6364136223846793005 + 1442695040888963407
	return int(uint64(*m) >> 33 % uint64(n))
}

func pick[T any](m *mixed, l ...T) T { return l[m.below(len(l))] }

// fair makes programs that may be out of parts that may be.
type fair struct {
	mixed
	vals  int
	locs  []string
	pool  []string // the registers that a thread may set
	known []string // those that it has set
	left  int      // how many statements it may have yet
}

func (f *fair) value() int { return f.below(f.vals) }

// mode is one of those that the Kind may have.
func (f *fair) mode(kind int) int { return pick(&f.mixed, kinds[kind].modes...) }

func (f *fair) expr(deep int) api.Expr {
	switch {
	case deep > 1 && f.below(3) > 0:
		return pair(3+f.below(4), f.expr(deep-1), f.expr(deep-1))
	case len(f.known) > 0 && f.below(2) > 0:
		return reg(pick(&f.mixed, f.known...))
	}
	return num(f.value())
}

// exprIn is an expression as deep as may be, now and then.
func (f *fair) exprIn() api.Expr {
	if f.below(5) == 0 {
		return chain(api.MaxDeep-1, 3+f.below(4), f.expr(2))
	}
	return f.expr(1 + f.below(4))
}

func (f *fair) stmt(ifs int) api.Stmt {
	kind := pick(&f.mixed, 1, 2, 3, 4, 5, 6, 7, 7)
	for len(f.locs) == 0 && kinds[kind].loc {
		kind = 1 + f.below(7)
	}
	s := api.Stmt{Kind: kind, Mode: f.mode(kind)}
	for range kinds[kind].args {
		s.Args = append(s.Args, f.exprIn())
	}
	if kinds[kind].loc {
		s.Loc = pick(&f.mixed, f.locs...)
	}
	if kinds[kind].reg {
		s.Reg = pick(&f.mixed, f.pool...)
		if !slices.Contains(f.known, s.Reg) {
			f.known = append(f.known, s.Reg)
		}
	}
	if kind == api.If && ifs < api.MaxDeep {
		s.Then = f.block(ifs + 1)
		s.Else = f.block(ifs + 1)
	}
	return s
}

func (f *fair) block(ifs int) []api.Stmt {
	var l []api.Stmt
	for f.left > 0 && f.below(4) > 0 {
		f.left--
		l = append(l, f.stmt(ifs))
	}
	return l
}

func (f *fair) thread() []api.Stmt {
	f.pool = pick(&f.mixed, []string{"r", "s", "u", "v"}, []string{"a", "R1"}, []string{"register", "b", "Sc", "z9"}, []string{"r"})
	f.known, f.left = nil, f.below(17)
	l := f.block(0)
	for f.below(2) == 0 && f.left > 0 { // as many as may be, now and then
		l = append(l, f.block(0)...)
	}
	return l
}

func (f *fair) cond(deep int, atoms []api.Cond) api.Cond {
	if deep == 1 || f.below(3) == 0 {
		c := pick(&f.mixed, atoms...)
		c.N = f.value()
		return c
	}
	if f.below(3) == 0 {
		return join(api.Not, f.cond(deep-1, atoms))
	}
	return join(api.And+f.below(2), f.cond(deep-1, atoms), f.cond(deep-1, atoms))
}

// atoms are the conditions that may be without others, but for their numbers.
func atoms(p api.Prog) []api.Cond {
	var l []api.Cond
	for _, c := range p.Init {
		l = append(l, mem(c.Loc, 0))
	}
	for i, thread := range p.Threads {
		for _, r := range modelRegs(thread) {
			l = append(l, regIs(i, r, 0))
		}
	}
	return l
}

// fairProg is a program that may be, the same for the same seed.
func fairProg(seed int) api.Prog {
	f := &fair{mixed: mixed(seed)}
	f.below(2)
	f.vals = 2 + f.below(api.MaxVals-1)
	p := api.Prog{Name: pick(&f.mixed, "a", "x", "litmus12", "R"), Vals: f.vals, Ask: 1 + f.below(2)}
	for _, loc := range []string{"x", "Y", "location", "w1"}[:f.below(api.MaxLocs+1)] {
		p.Init = append(p.Init, api.Cell{Loc: loc, N: f.value()})
		f.locs = append(f.locs, loc)
	}
	for range 1 + f.below(api.MaxThreads) {
		p.Threads = append(p.Threads, f.thread())
	}
	if len(atoms(p)) == 0 {
		p.Threads[0] = stmts(set("r", num(f.value())))
	}
	p.Cond = f.cond(1+f.below(api.MaxDeep), atoms(p))
	return p
}

// stmtsIn are all statements of a block in the order of the text.
func stmtsIn(l []api.Stmt) []*api.Stmt {
	var out []*api.Stmt
	for i := range l {
		out = append(out, &l[i])
		out = append(out, stmtsIn(l[i].Then)...)
		out = append(out, stmtsIn(l[i].Else)...)
	}
	return out
}

// allStmts are all statements of a program in the order of the text.
func allStmts(p *api.Prog) []*api.Stmt {
	var out []*api.Stmt
	for _, l := range p.Threads {
		out = append(out, stmtsIn(l)...)
	}
	return out
}

// exprsIn are an expression and all that are within it.
func exprsIn(e *api.Expr) []*api.Expr {
	out := []*api.Expr{e}
	for i := range e.Kids {
		out = append(out, exprsIn(&e.Kids[i])...)
	}
	return out
}

func condsIn(c *api.Cond) []*api.Cond {
	out := []*api.Cond{c}
	for i := range c.Kids {
		out = append(out, condsIn(&c.Kids[i])...)
	}
	return out
}
