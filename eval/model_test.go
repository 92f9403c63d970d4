package eval_test

import (
	"math/big"
	"testing"

	"withe/api"
	"withe/eval"
)

// model is a second way of saying what an expression comes to: first whether it comes to something, then to what, in whole numbers of any size, gone round at each step.
type model struct {
	has map[string]int
	n   int
}

func (p place) model() model {
	m := model{map[string]int{}, p.n}
	for i := len(p.regs) - 1; i >= 0; i-- { // from behind, so that the first one stays
		m.has[p.regs[i]] = p.vals[i]
	}
	return m
}

func (m model) round(v int) int {
	return int(new(big.Int).Mod(big.NewInt(int64(v)), big.NewInt(int64(m.n))).Int64())
}

// sides are the Kids of an expression that are looked at.
func sides(e api.Expr) []api.Expr {
	if e.Op == api.Num || e.Op == api.Reg {
		return nil
	}
	return e.Kids
}

func depth(e api.Expr) int {
	most := 0
	for _, k := range sides(e) {
		most = max(most, depth(k))
	}
	return most + 1
}

// sound tells whether e and all that is within it is well made, however deep.
func (m model) sound(e api.Expr) bool {
	if _, there := m.has[e.Name]; e.Op == api.Reg && !there {
		return false
	}
	if e.Op < api.Num || e.Op > api.Less || e.Op > api.Reg && len(e.Kids) != 2 {
		return false
	}
	for _, k := range sides(e) {
		if !m.sound(k) {
			return false
		}
	}
	return true
}

// value is what an expression that comes to something comes to.
func (m model) value(e api.Expr) int {
	var l []int
	for _, k := range sides(e) {
		l = append(l, m.value(k))
	}
	one := map[bool]int{true: 1}
	switch e.Op {
	case api.Num:
		return m.round(e.N)
	case api.Reg:
		return m.round(m.has[e.Name])
	case api.Plus:
		return m.round(l[0] + l[1])
	case api.Minus:
		return m.round(l[0] - l[1])
	case api.Eq:
		return one[l[0] == l[1]]
	}
	return one[l[0] < l[1]]
}

func (p place) comesToSomething(e api.Expr) bool {
	return p.n >= 2 && p.n <= 4 && len(p.regs) == len(p.vals) && depth(e) <= 6 && p.model().sound(e)
}

// wantModel asks for what the model says, and tells whether it is something.
func (p place) wantModel(t *testing.T, e api.Expr) bool {
	t.Helper()
	if !p.comesToSomething(e) {
		p.wantNo(t, e)
		return false
	}
	p.want(t, e, p.model().value(e))
	return true
}

func call(e api.Expr, p place) (int, bool) { return eval.Expr(e, p.regs, p.vals, p.n) }

// small are all expressions of that depth at most over a few ones without Kids.
func small(deep int) []api.Expr {
	l := []api.Expr{num(-1), num(0), num(1), num(5), reg("r"), reg("s"), reg("q"), reg("z"), {}}
	if deep == 1 {
		return l
	}
	in := small(deep - 1)
	for _, op := range append(pairOps(), 7) {
		for _, a := range in {
			for _, b := range in {
				l = append(l, pair(op, a, b))
			}
		}
	}
	for _, a := range in {
		for _, op := range pairOps() {
			l = append(l, with(op, a), with(op, a, a, a))
		}
		l = append(l, api.Expr{Op: api.Num, N: 2, Kids: []api.Expr{a}}, api.Expr{Op: api.Reg, Name: "r", Kids: []api.Expr{a, a}})
	}
	return l
}

func TestAllSmallOnes(t *testing.T) {
	regs, vals := []string{"r", "s", "r", "q"}, []int{3, 1, 0, -2}
	for n := 1; n <= api.MaxVals+1; n++ {
		for _, e := range small(2) {
			place{regs, vals, n}.wantModel(t, e)
			place{regs, vals[:3], n}.wantNo(t, e)
		}
	}
	for i, e := range small(3) { // each in one of the numbers of values
		place{regs, vals, 2 + i%3}.wantModel(t, e)
		if t.Failed() {
			t.FailNow()
		}
	}
}

// mixed is a row of numbers without order, the same at each run.
type mixed uint64

func (m *mixed) below(n int) int {
	*m = *m*6364136223846793005 + 1442695040888963407
	return int(uint64(*m) >> 33 % uint64(n))
}

func pick[T any](m *mixed, l ...T) T { return l[m.below(len(l))] }

// place is one whose registers are there more than once, now and then, and have any numbers.
func (m *mixed) place() place {
	p := place{n: 2 + m.below(3)}
	for range m.below(6) {
		p.regs = append(p.regs, pick(m, "r", "s", "t", "u"))
		p.vals = append(p.vals, pick(m, numbers()...))
	}
	return p
}

// expr is a well made expression of that depth at most.
func (m *mixed) expr(p place, deep int) api.Expr {
	switch {
	case deep > 1 && m.below(5) > 0:
		return pair(pick(m, pairOps()...), m.expr(p, deep-1), m.expr(p, deep-1))
	case len(p.regs) > 0 && m.below(2) > 0:
		return reg(pick(m, p.regs...))
	}
	return num(pick(m, numbers()...))
}

func TestManyWellMadeOnes(t *testing.T) {
	var m mixed
	deepest := 0
	for range 20000 {
		p := m.place()
		e := m.expr(p, 1+m.below(api.MaxDeep))
		deepest = max(deepest, depth(e))
		if !p.wantModel(t, e) {
			t.Errorf("%s in %v comes to nothing", text(e, 9), p)
		}
		if t.Failed() {
			t.FailNow()
		}
	}
	if deepest != api.MaxDeep {
		t.Error("no more within one another than", deepest)
	}
}

// dent makes one expression wrong.
func (m *mixed) dent(e *api.Expr) {
	switch m.below(5) {
	case 0:
		e.Op = pick(m, append(odds(), 0, 7, -1)...)
	case 1:
		*e = reg(pick(m, "", "z", "R"))
	case 2:
		*e = with(pick(m, pairOps()...), some(pick(m, 0, 1, 3, 4), num)...)
	case 3:
		*e = chain(api.MaxDeep+1+m.below(3), pick(m, pairOps()...), pick(m, ways()...), num(1))
	case 4:
		*e = api.Expr{}
	}
}

// One wrong expression, wherever it stands, and nothing comes of the whole.
func TestOneWrongWithinOthers(t *testing.T) {
	m := mixed(7)
	for range 20000 {
		p := m.place()
		e := m.expr(p, 1+m.below(api.MaxDeep))
		m.dent(pick(&m, exprsIn(&e)...))
		if p.wantModel(t, e) {
			t.Errorf("%s in %v comes to something", text(e, 9), p)
		}
		if t.Failed() {
			t.FailNow()
		}
	}
}
