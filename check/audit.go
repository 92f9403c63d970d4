package check

import (
	"withe/api"
	"withe/lex"
)

// audit goes through a program's parts in order. It ends at the first one that may not be, so what it asks of a part it may ask in the light of those ahead of it, which may all be.
type audit struct {
	prog  api.Prog
	part  int // the number of the part that is asked
	locs  names
	regs  names // that the thread's statements so far set
	stmts int   // of the thread, so far
}

// first asks one thing after the other, and is the first error.
func first(asks ...func() api.Errno) api.Errno {
	for _, ask := range asks {
		if err := ask(); err != api.OK {
			return err
		}
	}
	return api.OK
}

// unless is err, unless what is asked holds.
func unless(holds bool, err api.Errno) api.Errno {
	if holds {
		return api.OK
	}
	return err
}

// value tells whether n is one of the program's values.
func (a *audit) value(n int) bool {
	return 0 <= n && n < a.prog.Vals
}

func (a *audit) head() api.Errno {
	p := a.prog
	switch {
	case !lex.Name(p.Name):
		return api.ErrName
	case p.Vals < 2 || p.Vals > api.MaxVals:
		return api.ErrArg
	case len(p.Init) > api.MaxLocs:
		return api.ErrLong
	case len(p.Threads) == 0:
		return api.ErrArg
	}
	return unless(len(p.Threads) <= api.MaxThreads, api.ErrLong)
}

func (a *audit) cells() api.Errno {
	for _, c := range a.prog.Init {
		a.part++
		if err := a.cell(c); err != api.OK {
			return err
		}
		a.locs.add(c.Loc)
	}
	return api.OK
}

func (a *audit) cell(c api.Cell) api.Errno {
	if !lex.Name(c.Loc) || a.locs.has(c.Loc) {
		return api.ErrName
	}
	return unless(a.value(c.N), api.ErrArg)
}

func (a *audit) threads() api.Errno {
	for _, l := range a.prog.Threads {
		a.regs, a.stmts = names{}, 0
		if err := a.block(l, 0); err != api.OK {
			return err
		}
	}
	return api.OK
}

// block asks statements that are within that many ifs.
func (a *audit) block(l []api.Stmt, ifs int) api.Errno {
	for _, s := range l {
		a.part++
		a.stmts++
		if err := a.stmt(s, ifs); err != api.OK {
			return err
		}
		if sets(s.Kind) {
			a.regs.add(s.Reg)
		}
		if err := a.block(s.Then, ifs+1); err != api.OK {
			return err
		}
		if err := a.block(s.Else, ifs+1); err != api.OK {
			return err
		}
	}
	return api.OK
}

func (a *audit) question() api.Errno {
	a.part++
	if a.prog.Ask != api.Exists && a.prog.Ask != api.Forall {
		return api.ErrArg
	}
	return within(a.prog.Cond, condKids, a.cond)
}
