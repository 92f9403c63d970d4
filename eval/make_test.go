package eval_test

import (
	"fmt"
	"math"
	"testing"

	"withe/api"
	"withe/eval"
)

func num(n int) api.Expr                     { return api.Expr{Op: api.Num, N: n} }
func reg(s string) api.Expr                  { return api.Expr{Op: api.Reg, Name: s} }
func pair(op int, a, b api.Expr) api.Expr    { return api.Expr{Op: op, Kids: []api.Expr{a, b}} }
func with(op int, kids ...api.Expr) api.Expr { return api.Expr{Op: op, Kids: kids} }
func plus(a, b api.Expr) api.Expr            { return pair(api.Plus, a, b) }
func minus(a, b api.Expr) api.Expr           { return pair(api.Minus, a, b) }
func eq(a, b api.Expr) api.Expr              { return pair(api.Eq, a, b) }
func less(a, b api.Expr) api.Expr            { return pair(api.Less, a, b) }
func pairOps() []int                         { return []int{api.Plus, api.Minus, api.Eq, api.Less} }

func some[T any](n int, of func(int) T) (l []T) {
	for i := range n {
		l = append(l, of(i))
	}
	return l
}

// place is what an expression stands in: registers, what they have, how many values there are.
type place struct {
	regs []string
	vals []int
	n    int
}

// plain is n values, with registers that are there once and have a value each.
func plain(n int) place {
	return place{[]string{"r", "s", "t"}, []int{1, 0, n - 1}, n}
}

// text is e in brackets, as far in as most.
func text(e api.Expr, most int) string {
	out := fmt.Sprintf("(%d %d %q", e.Op, e.N, e.Name)
	for i, k := range e.Kids {
		if most == 0 || i == 4 {
			out += " .."
			break
		}
		out += " " + text(k, most-1)
	}
	return out + ")"
}

// want asks that e come to v, and to true unless v is 0.
func (p place) want(t *testing.T, e api.Expr, v int) {
	t.Helper()
	if got, ok := eval.Expr(e, p.regs, p.vals, p.n); got != v || !ok {
		t.Errorf("Expr(%s, %q, %d, %d) = %d, %t, not %d", text(e, 9), p.regs, p.vals, p.n, got, ok, v)
	}
	if is, ok := eval.True(e, p.regs, p.vals, p.n); is != (v != 0) || !ok {
		t.Errorf("True(%s, %q, %d, %d) = %t, %t, where Expr is to be %d", text(e, 9), p.regs, p.vals, p.n, is, ok, v)
	}
}

// wantNo asks that e come to nothing, with zero values beside the no.
func (p place) wantNo(t *testing.T, e api.Expr) {
	t.Helper()
	if v, ok := eval.Expr(e, p.regs, p.vals, p.n); v != 0 || ok {
		t.Errorf("Expr(%s, %q, %d, %d) = %d, %t, not 0, false", text(e, 9), p.regs, p.vals, p.n, v, ok)
	}
	if is, ok := eval.True(e, p.regs, p.vals, p.n); is || ok {
		t.Errorf("True(%s, %q, %d, %d) = %t, %t, not false, false", text(e, 9), p.regs, p.vals, p.n, is, ok)
	}
}

// odds are numbers that are far below or above all values.
func odds() []int {
	return []int{math.MinInt, math.MinInt + 1, math.MinInt + 2, -1 << 62, -1<<32 - 1, -1 << 32, -257, -256, -255, -10, 10, 255, 256, 257, 1 << 31, 1<<31 + 1, 1 << 32, 1<<32 + 1, 1<<32 + 3, 1 << 62, 1<<62 + 1, math.MaxInt - 1, math.MaxInt}
}

// numbers are odds, and all numbers near the values.
func numbers() []int {
	return append(odds(), some(19, func(i int) int { return i - 9 })...)
}

// chain is that many expressions within one another, with end as the innermost one: way tells by turns whether the next one is the first Kid (a) or the second one (b) of what it is in.
func chain(deep, op int, way string, end api.Expr) api.Expr {
	e := end
	for i := range deep - 1 {
		if way[i%len(way)] == 'a' {
			e = pair(op, e, num(1))
		} else {
			e = pair(op, num(1), e)
		}
	}
	return e
}

// full is an expression with all Kids that may be, that many within one another.
func full(deep, op int, end api.Expr) api.Expr {
	if deep == 1 {
		return end
	}
	return pair(op, full(deep-1, op, end), full(deep-1, op, end))
}

// ways are ways for chain.
func ways() []string {
	return []string{"a", "b", "ab", "ba", "aab", "bba", "abbab"}
}

// holed are expressions with e as one of their Kids, further and further in, which all stand within MaxDeep, if e has no Kids.
func holed(e api.Expr) []api.Expr {
	l := []api.Expr{e}
	for _, op := range pairOps() {
		for _, way := range ways() {
			for deep := 2; deep <= api.MaxDeep; deep++ {
				l = append(l, chain(deep, op, way, e))
			}
		}
	}
	return append(l, plus(less(num(0), eq(e, num(1))), minus(num(1), reg("r"))), minus(num(1), eq(reg("s"), less(num(2), e))))
}

// exprsIn are an expression and all that are within it.
func exprsIn(e *api.Expr) []*api.Expr {
	out := []*api.Expr{e}
	for i := range e.Kids {
		out = append(out, exprsIn(&e.Kids[i])...)
	}
	return out
}

// copied is an expression that shares nothing with e, and has no spare room.
func copied(e api.Expr) api.Expr {
	if e.Kids != nil {
		kids := make([]api.Expr, len(e.Kids))
		for i, k := range e.Kids {
			kids[i] = copied(k)
		}
		e.Kids = kids
	}
	return e
}
