package post

import (
	"slices"

	"withe/api"
)

// asked is an outcome with the names of its places, of which conditions are asked: at most that many (deep) within one another.
type asked struct {
	locs []string
	regs [][]string
	out  api.Out
	deep int
}

// cond tells whether c holds. It goes no further in than may be, however deep c is.
func (a asked) cond(c api.Cond) (bool, bool) {
	if a.deep == 0 {
		return false, false
	}
	a.deep--
	ask := a.askOf(c.Op)
	if ask == nil {
		return false, false
	}
	return ask(c)
}

// askOf is what asks conditions of that Op; nil, if it is none.
func (a asked) askOf(op int) func(api.Cond) (bool, bool) {
	switch op {
	case api.Mem:
		return a.mem
	case api.RegIs:
		return a.regIs
	case api.Not:
		return a.not
	case api.And:
		return a.and
	case api.Or:
		return a.or
	}
	return nil
}

func (a asked) mem(c api.Cond) (bool, bool) {
	if len(c.Kids) > 0 {
		return false, false
	}
	return has(a.locs, a.out.Mem, c)
}

func (a asked) regIs(c api.Cond) (bool, bool) {
	threads := min(len(a.regs), len(a.out.Regs))
	if len(c.Kids) > 0 || c.Thread < 0 || c.Thread >= threads {
		return false, false
	}
	return has(a.regs[c.Thread], a.out.Regs[c.Thread], c)
}

// has tells whether the place with c's Name has c's N.
func has(names []string, vals []int, c api.Cond) (bool, bool) {
	i := slices.Index(names, c.Name)
	if i < 0 || i >= len(vals) {
		return false, false
	}
	return vals[i] == c.N, true
}

func (a asked) not(c api.Cond) (bool, bool) {
	if len(c.Kids) != 1 {
		return false, false
	}
	is, ok := a.cond(c.Kids[0])
	return ok && !is, ok
}

func (a asked) and(c api.Cond) (bool, bool) {
	one, other, ok := a.both(c)
	return one && other, ok
}

func (a asked) or(c api.Cond) (bool, bool) {
	one, other, ok := a.both(c)
	return one || other, ok
}

// both tells of each of two Kids whether it holds. It asks the second one also where the first one decides, as a no there is a no of the whole.
func (a asked) both(c api.Cond) (one, other, ok bool) {
	if len(c.Kids) != 2 {
		return false, false, false
	}
	one, ok = a.cond(c.Kids[0])
	if !ok {
		return false, false, false
	}
	other, ok = a.cond(c.Kids[1])
	return ok && one, other, ok
}
