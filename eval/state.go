package eval

import (
	"slices"

	"withe/api"
	"withe/wrap"
)

// state is what expressions are reckoned in: there are n values, and the register regs[i] has vals[i].
type state struct {
	regs []string
	vals []int
	n    int
}

// expr is what e comes to, where at most that many expressions are within one another. It goes no further in than that, however deep e is.
func (s state) expr(e api.Expr, most int) (int, bool) {
	reckon := reckonOf(e.Op)
	if most == 0 || reckon == nil {
		return 0, false
	}
	return reckon(s, e, most)
}

// reckonOf is what reckons expressions of that Op; nil, if it is none.
func reckonOf(op int) func(s state, e api.Expr, most int) (int, bool) {
	switch op {
	case api.Num:
		return state.num
	case api.Reg:
		return state.reg
	case api.Plus:
		return state.plus
	case api.Minus:
		return state.minus
	case api.Eq:
		return state.eq
	case api.Less:
		return state.less
	}
	return nil
}

func (s state) num(e api.Expr, _ int) (int, bool) {
	return wrap.In(e.N, s.n), true
}

func (s state) reg(e api.Expr, _ int) (int, bool) {
	i := slices.Index(s.regs, e.Name)
	if i < 0 {
		return 0, false
	}
	return wrap.In(s.vals[i], s.n), true
}

func (s state) plus(e api.Expr, most int) (int, bool) {
	return s.both(e, most, wrap.Add)
}

func (s state) minus(e api.Expr, most int) (int, bool) {
	return s.both(e, most, wrap.Sub)
}

func (s state) eq(e api.Expr, most int) (int, bool) {
	return s.both(e, most, func(a, b, _ int) int { return bit(a == b) })
}

func (s state) less(e api.Expr, most int) (int, bool) {
	return s.both(e, most, func(a, b, _ int) int { return bit(a < b) })
}

// both is what join makes of what the two Kids come to.
func (s state) both(e api.Expr, most int, join func(a, b, n int) int) (int, bool) {
	if len(e.Kids) != 2 {
		return 0, false
	}
	a, ok := s.expr(e.Kids[0], most-1)
	if !ok {
		return 0, false
	}
	b, ok := s.expr(e.Kids[1], most-1)
	if !ok {
		return 0, false
	}
	return join(a, b, s.n), true
}

// bit is 1, if what is asked holds, else 0.
func bit(holds bool) int {
	if holds {
		return 1
	}
	return 0
}
