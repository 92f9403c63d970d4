package check

import (
	"slices"

	"withe/api"
	"withe/lex"
)

// modes are those that statements of a Kind may have.
type modes []int

func (l modes) has(m int) bool {
	return slices.Contains(l, m)
}

// asks is what is asked of statements of one Kind.
type asks struct {
	mode func(int) bool
	args int
	reg  func(string) api.Errno
	loc  func(string) api.Errno
}

// asksOf is what is asked of statements of that Kind; false, if it is none.
func (a *audit) asksOf(kind int) (asks, bool) {
	switch kind {
	case api.Set:
		return asks{modes{0}.has, 1, a.register, a.absent}, true
	case api.Load:
		return asks{modes{api.Rlx, api.Acq, api.Sc}.has, 0, a.register, a.location}, true
	case api.Store:
		return asks{modes{api.Rlx, api.Rel, api.Sc}.has, 1, a.absent, a.location}, true
	case api.Add:
		return asks{modes{api.Rlx, api.Acq, api.Rel, api.AcqRel, api.Sc}.has, 1, a.register, a.location}, true
	case api.Cas:
		return asks{modes{api.Rlx, api.Acq, api.Rel, api.AcqRel, api.Sc}.has, 2, a.register, a.location}, true
	case api.Fence:
		return asks{modes{api.Acq, api.Rel, api.AcqRel, api.Sc}.has, 0, a.absent, a.absent}, true
	case api.If:
		return asks{modes{0}.has, 1, a.absent, a.absent}, true
	}
	return asks{}, false
}

// stmt asks a statement that is within that many ifs, but nothing of the statements within it.
func (a *audit) stmt(s api.Stmt, ifs int) api.Errno {
	if a.stmts > api.MaxStmts || ifs > api.MaxDeep {
		return api.ErrLong
	}
	asked, ok := a.asksOf(s.Kind)
	if !ok || !asked.mode(s.Mode) || len(s.Args) != asked.args || s.Kind != api.If && len(s.Then)+len(s.Else) > 0 {
		return api.ErrArg
	}
	if err := asked.reg(s.Reg); err != api.OK {
		return err
	}
	if err := asked.loc(s.Loc); err != api.OK {
		return err
	}
	for _, e := range s.Args {
		if err := within(e, exprKids, a.expr); err != api.OK {
			return err
		}
	}
	return api.OK
}

// register asks the name of a register that is set.
func (a *audit) register(name string) api.Errno {
	if !lex.Name(name) || a.locs.has(name) {
		return api.ErrName
	}
	return unless(a.regs.has(name) || len(a.regs.list) < api.MaxRegs, api.ErrLong)
}

// location asks the name of a location.
func (a *audit) location(name string) api.Errno {
	return unless(a.locs.has(name), api.ErrName)
}

// absent asks the name where there may be none.
func (a *audit) absent(name string) api.Errno {
	return unless(name == "", api.ErrArg)
}
