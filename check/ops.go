package check

import "withe/api"

// deeper tells whether more than that many things stand within one another. It goes no further in than that, as a thing may be within itself.
func deeper[T any](one T, kids func(T) []T, most int) bool {
	if most == 0 {
		return true
	}
	for _, k := range kids(one) {
		if deeper(k, kids, most-1) {
			return true
		}
	}
	return false
}

// each asks one thing, then its kids one after the other, and is the first error.
func each[T any](one T, kids func(T) []T, ask func(T) api.Errno) api.Errno {
	if err := ask(one); err != api.OK {
		return err
	}
	for _, k := range kids(one) {
		if err := each(k, kids, ask); err != api.OK {
			return err
		}
	}
	return api.OK
}

// within asks one thing and all that is within it, if that is not too deep.
func within[T any](one T, kids func(T) []T, ask func(T) api.Errno) api.Errno {
	if deeper(one, kids, api.MaxDeep) {
		return api.ErrLong
	}
	return each(one, kids, ask)
}

func exprKids(e api.Expr) []api.Expr {
	return e.Kids
}

func condKids(c api.Cond) []api.Cond {
	return c.Kids
}

// expr asks an expression, but nothing of its Kids but how many there are.
func (a *audit) expr(e api.Expr) api.Errno {
	ask := a.exprOf(e.Op)
	if ask == nil {
		return api.ErrArg
	}
	return ask(e)
}

// exprOf is what asks expressions of that Op; nil, if it is none.
func (a *audit) exprOf(op int) func(api.Expr) api.Errno {
	switch op {
	case api.Num:
		return a.num
	case api.Reg:
		return a.reg
	case api.Plus, api.Minus, api.Eq, api.Less:
		return a.sides
	}
	return nil
}

func (a *audit) num(e api.Expr) api.Errno {
	return unless(len(e.Kids) == 0 && e.Name == "" && a.value(e.N), api.ErrArg)
}

func (a *audit) reg(e api.Expr) api.Errno {
	if len(e.Kids) > 0 || e.N != 0 {
		return api.ErrArg
	}
	return unless(a.regs.has(e.Name), api.ErrName)
}

func (a *audit) sides(e api.Expr) api.Errno {
	return unless(len(e.Kids) == 2 && e.Name == "" && e.N == 0, api.ErrArg)
}

// cond asks a condition, but nothing of its Kids but how many there are.
func (a *audit) cond(c api.Cond) api.Errno {
	ask := a.condOf(c.Op)
	if ask == nil {
		return api.ErrArg
	}
	return ask(c)
}

// condOf is what asks conditions of that Op; nil, if it is none.
func (a *audit) condOf(op int) func(api.Cond) api.Errno {
	switch op {
	case api.Mem:
		return a.mem
	case api.RegIs:
		return a.regIs
	case api.Not:
		return a.not
	case api.And, api.Or:
		return a.both
	}
	return nil
}

func (a *audit) mem(c api.Cond) api.Errno {
	if len(c.Kids) > 0 || c.Thread != 0 {
		return api.ErrArg
	}
	if !a.locs.has(c.Name) {
		return api.ErrName
	}
	return unless(a.value(c.N), api.ErrArg)
}

func (a *audit) regIs(c api.Cond) api.Errno {
	if len(c.Kids) > 0 || c.Thread < 0 || c.Thread >= len(a.prog.Threads) {
		return api.ErrArg
	}
	var regs names
	regs.addSet(a.prog.Threads[c.Thread])
	if !regs.has(c.Name) {
		return api.ErrName
	}
	return unless(a.value(c.N), api.ErrArg)
}

func (a *audit) not(c api.Cond) api.Errno {
	return joins(c, 1)
}

func (a *audit) both(c api.Cond) api.Errno {
	return joins(c, 2)
}

// joins asks a condition of others.
func joins(c api.Cond, kids int) api.Errno {
	return unless(len(c.Kids) == kids && c.Thread == 0 && c.Name == "" && c.N == 0, api.ErrArg)
}
