package check_test

import (
	"slices"
	"strings"

	"withe/api"
)

// rule is a thing that may be wrong of a part, and what is told then.
type rule struct {
	wrong func() bool
	err   api.Errno
}

// spot is a statement, and where it stands.
type spot struct {
	s                api.Stmt
	thread, nth, ifs int
}

// spots are the statements of a block in the order of the text, nth not yet numbered.
func spots(l []api.Stmt, thread, ifs int) []spot {
	var out []spot
	for _, s := range l {
		out = append(out, spot{s: s, thread: thread, ifs: ifs})
		out = append(out, spots(s.Then, thread, ifs+1)...)
		out = append(out, spots(s.Else, thread, ifs+1)...)
	}
	return out
}

// allSpots are the statements of a program, those of a thread numbered from 1 on.
func allSpots(p api.Prog) []spot {
	var out []spot
	for i, l := range p.Threads {
		own := spots(l, i, 0)
		for k := range own {
			own[k].nth = k + 1
		}
		out = append(out, own...)
	}
	return out
}

const modelKeywords = " litmus values init thread load add cas store fence if else exists forall and or not rlx acq rel acqrel sc "

func modelName(s string) bool {
	const letters = "ABCDEFGHIJKLMNOPQRSTUVWXYZabcdefghijklmnopqrstuvwxyz"
	return s != "" && len(s) <= 8 && strings.Trim(s, letters+"0123456789") == "" && strings.Contains(letters, s[:1]) && !strings.Contains(modelKeywords, " "+s+" ")
}

// setBy is the registers that those statements set.
func setBy(l []spot) []string {
	var out []string
	for _, k := range l {
		if strings.Contains("1245", string(rune('0'+k.s.Kind))) && k.s.Kind > 0 && !slices.Contains(out, k.s.Reg) {
			out = append(out, k.s.Reg)
		}
	}
	return out
}

func modelRegs(l []api.Stmt) []string { return setBy(spots(l, 0, 0)) }

// model answers what May must, from one list of all rules in their order.
type model struct{ p api.Prog }

func (m model) value(n int) bool { return n >= 0 && n <= m.p.Vals-1 }

func (m model) loc(s string) bool {
	return slices.ContainsFunc(m.p.Init, func(c api.Cell) bool { return c.Loc == s })
}

func (m model) head() []rule {
	return []rule{
		{func() bool { return !modelName(m.p.Name) }, api.ErrName},
		{func() bool { return m.p.Vals != 2 && m.p.Vals != 3 && m.p.Vals != 4 }, api.ErrArg},
		{func() bool { return len(m.p.Init) >= 5 }, api.ErrLong},
		{func() bool { return len(m.p.Threads) == 0 }, api.ErrArg},
		{func() bool { return len(m.p.Threads) >= 5 }, api.ErrLong},
	}
}

func (m model) cell(i int) []rule {
	c := m.p.Init[i]
	return []rule{
		{func() bool { return !modelName(c.Loc) || (model{api.Prog{Init: m.p.Init[:i]}}).loc(c.Loc) }, api.ErrName},
		{func() bool { return !m.value(c.N) }, api.ErrArg},
	}
}

// kinds says of each Kind: its modes, how many Args it has, whether it sets a register, whether it has a location.
var kinds = []struct {
	modes    []int
	args     int
	reg, loc bool
}{
	{},
	{[]int{0}, 1, true, false},
	{[]int{0, 1, 4}, 0, true, true},
	{[]int{0, 2, 4}, 1, false, true},
	{[]int{0, 1, 2, 3, 4}, 1, true, true},
	{[]int{0, 1, 2, 3, 4}, 2, true, true},
	{[]int{1, 2, 3, 4}, 0, false, false},
	{[]int{0}, 1, false, false},
}

// stmt is the rules of a statement; ahead are those of its thread that begin ahead of it.
func (m model) stmt(k spot, ahead []spot) []rule {
	s, known := k.s, setBy(ahead)
	none := func() bool { return s.Kind < 1 || s.Kind > 7 }
	rules := []rule{
		{func() bool { return k.nth > 16 || k.ifs > 6 }, api.ErrLong},
		{none, api.ErrArg},
	}
	if none() {
		return rules
	}
	of := kinds[s.Kind]
	rules = append(rules,
		rule{func() bool { return !slices.Contains(of.modes, s.Mode) }, api.ErrArg},
		rule{func() bool { return len(s.Args) != of.args }, api.ErrArg},
		rule{func() bool { return s.Kind != 7 && (len(s.Then) != 0 || len(s.Else) != 0) }, api.ErrArg},
		rule{func() bool { return of.reg && (!modelName(s.Reg) || m.loc(s.Reg)) }, api.ErrName},
		rule{func() bool { return of.reg && len(known) == 4 && !slices.Contains(known, s.Reg) }, api.ErrLong},
		rule{func() bool { return !of.reg && s.Reg != "" }, api.ErrArg},
		rule{func() bool { return of.loc && !m.loc(s.Loc) }, api.ErrName},
		rule{func() bool { return !of.loc && s.Loc != "" }, api.ErrArg},
	)
	for _, e := range s.Args {
		rules = append(rules, m.expr(e, known)...)
	}
	return rules
}

func exprDepth(e api.Expr) int {
	most := 0
	for _, k := range e.Kids {
		most = max(most, exprDepth(k))
	}
	return most + 1
}

// exprsOf are an expression and all that are within it, each ahead of what is within it.
func exprsOf(e api.Expr) []api.Expr {
	out := []api.Expr{e}
	for _, k := range e.Kids {
		out = append(out, exprsOf(k)...)
	}
	return out
}

func (m model) expr(e api.Expr, known []string) []rule {
	rules := []rule{{func() bool { return exprDepth(e) > 6 }, api.ErrLong}}
	for _, x := range exprsOf(e) {
		rules = append(rules,
			rule{func() bool { return x.Op < 1 || x.Op > 6 }, api.ErrArg},
			rule{func() bool { return x.Op <= 2 && len(x.Kids) != 0 || x.Op >= 3 && len(x.Kids) != 2 }, api.ErrArg},
			rule{func() bool { return x.Op != 2 && x.Name != "" || x.Op != 1 && x.N != 0 }, api.ErrArg},
			rule{func() bool { return x.Op == 1 && !m.value(x.N) }, api.ErrArg},
			rule{func() bool { return x.Op == 2 && !slices.Contains(known, x.Name) }, api.ErrName},
		)
	}
	return rules
}

func condDepth(c api.Cond) int {
	most := 0
	for _, k := range c.Kids {
		most = max(most, condDepth(k))
	}
	return most + 1
}

func condsOf(c api.Cond) []api.Cond {
	out := []api.Cond{c}
	for _, k := range c.Kids {
		out = append(out, condsOf(k)...)
	}
	return out
}

func (m model) question() []rule {
	rules := []rule{
		{func() bool { return m.p.Ask != 1 && m.p.Ask != 2 }, api.ErrArg},
		{func() bool { return condDepth(m.p.Cond) > 6 }, api.ErrLong},
	}
	for _, c := range condsOf(m.p.Cond) {
		kids := []int{1: 0, 2: 0, 3: 1, 4: 2, 5: 2}
		thread := func() bool { return c.Thread >= 0 && c.Thread < len(m.p.Threads) }
		rules = append(rules,
			rule{func() bool { return c.Op < 1 || c.Op > 5 }, api.ErrArg},
			rule{func() bool { return len(c.Kids) != kids[c.Op] }, api.ErrArg},
			rule{func() bool { return c.Op == 1 && c.Thread != 0 }, api.ErrArg},
			rule{func() bool { return c.Op == 1 && !m.loc(c.Name) }, api.ErrName},
			rule{func() bool { return c.Op == 2 && !thread() }, api.ErrArg},
			rule{func() bool { return c.Op == 2 && !slices.Contains(modelRegs(m.p.Threads[c.Thread]), c.Name) }, api.ErrName},
			rule{func() bool { return c.Op <= 2 && !m.value(c.N) }, api.ErrArg},
			rule{func() bool { return c.Op > 2 && (c.Thread != 0 || c.Name != "" || c.N != 0) }, api.ErrArg},
		)
	}
	return rules
}

// parts are the rules of each part.
func (m model) parts() [][]rule {
	parts := [][]rule{m.head()}
	for i := range m.p.Init {
		parts = append(parts, m.cell(i))
	}
	all := allSpots(m.p)
	for i, k := range all {
		parts = append(parts, m.stmt(k, all[i-k.nth+1:i]))
	}
	return append(parts, m.question())
}

func modelMay(p api.Prog) (api.Errno, int) {
	for i, rules := range (model{p}).parts() {
		for _, r := range rules {
			if r.wrong() {
				return r.err, i
			}
		}
	}
	return api.OK, 0
}
