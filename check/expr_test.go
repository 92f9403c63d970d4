package check_test

import (
	"testing"

	"withe/api"
)

// chain is deep expressions within one another, with end as the innermost one, on the one side and on the other by turns.
func chain(deep, op int, end api.Expr) api.Expr {
	e := end
	for i := range deep - 1 {
		if i%2 == 0 {
			e = pair(op, num(0), e)
		} else {
			e = pair(op, e, num(1))
		}
	}
	return e
}

// holes put an expression into each place where one may be, with r set ahead, and tell the part's number.
func holes() []func(api.Expr) (api.Prog, int) {
	var l []func(api.Expr) (api.Prog, int)
	for _, s := range each()[1:] {
		for i := range s.Args {
			l = append(l, func(e api.Expr) (api.Prog, int) {
				s := s
				s.Args = append([]api.Expr(nil), s.Args...)
				s.Args[i] = e
				return prog(nil, stmts(set("r", num(1)), s)), 4
			}, func(e api.Expr) (api.Prog, int) {
				s := s
				s.Args = append([]api.Expr(nil), s.Args...)
				s.Args[i] = e
				return prog(stmts(set("r", num(1)), fence(), when(reg("r"), stmts(fence()), stmts(s)))), 7
			})
		}
	}
	return l
}

// wantExpr puts e, and e within others, into each place. What is wrong of e is told ahead of what is wrong behind it.
func wantExpr(t *testing.T, e api.Expr, err api.Errno) {
	t.Helper()
	ins := []api.Expr{e, pair(api.Plus, e, num(1)), pair(api.Eq, num(1), e), pair(api.Less, pair(api.Minus, num(0), e), num(2))}
	for _, hole := range holes() {
		for _, in := range ins {
			p, part := hole(in)
			if err == api.OK {
				part = 0
			}
			wantMay(t, p, err, part)
		}
		p, part := hole(pair(api.Less, pair(api.Minus, num(0), e), reg("none")))
		if err == api.OK {
			wantMay(t, p, api.ErrName, part)
		} else {
			wantMay(t, p, err, part)
		}
	}
}

func TestHowDeepExpressions(t *testing.T) {
	for op := api.Plus; op <= api.Less; op++ {
		for deep := 1; deep <= 9; deep++ {
			for _, end := range []api.Expr{num(1), reg("r")} {
				for _, hole := range holes() {
					e := chain(deep, op, end)
					p, part := hole(e)
					if deep <= api.MaxDeep {
						wantMay(t, p, api.OK, 0)
						p, _ = hole(pair(op, e, e))
						if deep < api.MaxDeep {
							wantMay(t, p, api.OK, 0)
							continue
						}
					}
					wantMay(t, p, api.ErrLong, part)
					p, _ = hole(pair(op, num(1), e))
					wantMay(t, p, api.ErrLong, part)
					p, _ = hole(pair(op, e, num(1)))
					wantMay(t, p, api.ErrLong, part)
				}
			}
		}
	}
}

// Too deep is told ahead of all else, wherever the deep one stands, in Kids that may not be there too.
func TestTooDeepIsToldFirst(t *testing.T) {
	seven := chain(7, api.Minus, api.Expr{})
	six := chain(6, api.Minus, api.Expr{})
	for _, hole := range holes() {
		for _, e := range []api.Expr{
			{Op: 0, Kids: []api.Expr{six}}, {Op: api.Num, N: 9, Kids: []api.Expr{six}}, {Op: api.Reg, Name: "q", Kids: []api.Expr{{}, {}, six}}, {Op: api.Plus, Kids: []api.Expr{{}, six, {}}},
			pair(api.Plus, num(9), six), pair(9, six, reg("q")), seven, pair(api.Plus, reg("q"), seven),
		} {
			p, part := hole(e)
			wantMay(t, p, api.ErrLong, part)
		}
		p, part := hole(six)
		wantMay(t, p, api.ErrArg, part)
		p, part = hole(api.Expr{Op: api.Num, N: 1, Kids: []api.Expr{chain(5, api.Minus, num(1))}})
		wantMay(t, p, api.ErrArg, part)
	}
}

func TestOpsOfExpressions(t *testing.T) {
	kids := func(n int) []api.Expr {
		var l []api.Expr
		for range n {
			l = append(l, num(1))
		}
		return l
	}
	for _, op := range append(odds(), 0, 1, 2, 3, 4, 5, 6, 7, 8) {
		for n := range 5 {
			e := api.Expr{Op: op, Kids: kids(n)}
			if op == api.Reg {
				e.Name = "r"
			}
			switch {
			case op >= api.Plus && op <= api.Less && n == 2, (op == api.Num || op == api.Reg) && n == 0:
				wantExpr(t, e, api.OK)
			default:
				wantExpr(t, e, api.ErrArg)
			}
			e.Name, e.N = "r", 0
			if op == api.Reg && n == 0 {
				wantExpr(t, e, api.OK)
			} else {
				wantExpr(t, e, api.ErrArg)
			}
			e.Name, e.N = "", 1
			if op == api.Num && n == 0 {
				wantExpr(t, e, api.OK)
			} else {
				wantExpr(t, e, api.ErrArg)
			}
			e.Name = "r"
			wantExpr(t, e, api.ErrArg)
			e.N = -1
			wantExpr(t, e, api.ErrArg)
		}
		if op == api.Num || op == api.Reg {
			e := api.Expr{Op: op, Kids: []api.Expr{}}
			if op == api.Reg {
				e.Name = "r"
			}
			wantExpr(t, e, api.OK)
		}
	}
}

func TestNumbers(t *testing.T) {
	for _, hole := range holes() {
		for vals := 2; vals <= api.MaxVals; vals++ {
			for _, n := range append(odds(), 0, 1, 2, 3, 4, 5) {
				p, part := hole(num(n))
				p.Vals, p.Init[1].N = vals, 0
				if n >= 0 && n <= vals-1 {
					wantMay(t, p, api.OK, 0)
				} else {
					wantMay(t, p, api.ErrArg, part)
				}
			}
		}
	}
}

func TestNumbersWithinOthers(t *testing.T) {
	for _, n := range append(odds(), 3, 4) {
		wantExpr(t, num(n), api.ErrArg)
		wantExpr(t, pair(api.Minus, num(n), num(0)), api.ErrArg)
		wantExpr(t, pair(api.Less, num(2), num(n)), api.ErrArg)
	}
	for n := range 3 {
		wantExpr(t, num(n), api.OK)
		wantExpr(t, pair(api.Minus, num(2-n), num(n)), api.OK)
	}
}

// What an expression comes to is not asked: only the numbers that stand there.
func TestSumsMayBeMore(t *testing.T) {
	wantExpr(t, pair(api.Plus, num(2), num(2)), api.OK)
	wantExpr(t, pair(api.Minus, num(0), num(2)), api.OK)
}

func TestRegistersOfExpressions(t *testing.T) {
	wantExpr(t, reg("r"), api.OK)
	for _, s := range append(wrongNames(), "q", "R", "rr", "x", "y", "a") {
		wantExpr(t, reg(s), api.ErrName)
		wantExpr(t, pair(api.Plus, reg("r"), reg(s)), api.ErrName)
		wantExpr(t, api.Expr{Op: api.Reg, N: 1, Name: s}, api.ErrArg)
		wantExpr(t, api.Expr{Op: api.Reg, Name: s, Kids: []api.Expr{num(1)}}, api.ErrArg)
	}
}

// using is a statement of each Kind that has an Arg, with r as one of them.
func using() []api.Stmt {
	return stmts(set("q", reg("r")), store("x", reg("r")), add("q", "x", reg("r")), cas("q", "x", reg("r"), num(1)), cas("q", "x", num(1), reg("r")), when(reg("r"), nil, nil))
}

func TestRegistersSetAhead(t *testing.T) {
	for _, by := range stmts(set("r", num(0)), load("r", "x"), add("r", "x", num(1)), cas("r", "x", num(1), num(1))) {
		for _, use := range using() {
			wantMay(t, prog(stmts(by, use)), api.OK, 0)
			wantMay(t, prog(stmts(by, fence(), use)), api.OK, 0)
			wantMay(t, prog(nil, stmts(by, use), nil), api.OK, 0)
			wantMay(t, prog(stmts(use, by)), api.ErrName, 3)
			wantMay(t, prog(stmts(by), stmts(use)), api.ErrName, 4)
			wantMay(t, prog(stmts(use), stmts(by)), api.ErrName, 3)
			wantMay(t, prog(stmts(by, use), stmts(use, by)), api.ErrName, 5)
			wantMay(t, prog(stmts(when(num(0), stmts(by), nil), use)), api.OK, 0)
			wantMay(t, prog(stmts(when(num(0), nil, stmts(by)), use)), api.OK, 0)
			wantMay(t, prog(stmts(when(num(0), stmts(by), stmts(use)))), api.OK, 0)
			wantMay(t, prog(stmts(when(num(0), stmts(use), stmts(by)))), api.ErrName, 4)
			wantMay(t, prog(stmts(when(num(0), stmts(fence()), stmts(use)), by)), api.ErrName, 5)
			wantMay(t, prog(stmts(by, when(num(0), stmts(use), stmts(use)), use)), api.OK, 0)
			wantMay(t, prog(append(nested(stmts(by), "tetete"), nested(stmts(use), "etetet")...)), api.OK, 0)
			wantMay(t, prog(append(nested(stmts(use), "etetet"), nested(stmts(by), "tetete")...)), api.ErrName, 9)
		}
		wantMay(t, prog(stmts(when(reg("r"), stmts(by), nil))), api.ErrName, 3)
		wantMay(t, prog(stmts(when(reg("r"), nil, stmts(by)), by)), api.ErrName, 3)
	}
	for _, own := range stmts(set("r", reg("r")), add("r", "x", reg("r")), cas("r", "x", reg("r"), num(1)), cas("r", "x", num(1), reg("r"))) {
		wantMay(t, prog(stmts(own)), api.ErrName, 3)
		wantMay(t, prog(stmts(own, set("r", num(1)))), api.ErrName, 3)
		wantMay(t, prog(stmts(set("r", num(1)), own, own)), api.OK, 0)
	}
}

// Each of four registers is known once it is set, and not ahead of that.
func TestEachRegisterIsKnown(t *testing.T) {
	names := []string{"a", "b", "c", "d"}
	for i := range names {
		for k := range names {
			var l []api.Stmt
			for _, s := range names[:i+1] {
				l = append(l, set(s, num(0)))
			}
			l = append(l, store("x", reg(names[k])))
			if k <= i {
				wantMay(t, prog(l), api.OK, 0)
			} else {
				wantMay(t, prog(l), api.ErrName, 3+i+1)
			}
		}
	}
}

// A Kid is told after what it is in, the first one with all that is within it ahead of the second one.
func TestOrderWithinAnExpression(t *testing.T) {
	q, nine := reg("q"), num(9)
	wantExpr(t, pair(api.Plus, q, nine), api.ErrName)
	wantExpr(t, pair(api.Plus, nine, q), api.ErrArg)
	wantExpr(t, pair(9, q, q), api.ErrArg)
	wantExpr(t, api.Expr{Op: api.Plus, N: 1, Kids: []api.Expr{q, q}}, api.ErrArg)
	wantExpr(t, api.Expr{Op: api.Plus, Kids: []api.Expr{q, q, q}}, api.ErrArg)
	wantExpr(t, api.Expr{Op: api.Plus, Kids: []api.Expr{q}}, api.ErrArg)
	wantExpr(t, api.Expr{Op: api.Eq, Name: "r", Kids: []api.Expr{q, q}}, api.ErrArg)
	wantExpr(t, pair(api.Plus, pair(api.Minus, num(1), q), nine), api.ErrName)
	wantExpr(t, pair(api.Plus, pair(api.Minus, num(1), nine), q), api.ErrArg)
	wantExpr(t, pair(api.Plus, pair(api.Minus, num(1), num(1)), pair(api.Less, q, nine)), api.ErrName)
	wantExpr(t, pair(api.Plus, num(1), pair(0, q, q)), api.ErrArg)
	p := prog(stmts(cas("r", "x", q, nine)))
	wantMay(t, p, api.ErrName, 3)
	p = prog(stmts(cas("r", "x", nine, q)))
	wantMay(t, p, api.ErrArg, 3)
	p = prog(stmts(cas("r", "x", q, chain(7, api.Plus, num(1)))))
	wantMay(t, p, api.ErrName, 3)
	p = prog(stmts(cas("r", "x", num(1), chain(7, api.Plus, num(1)))))
	wantMay(t, p, api.ErrLong, 3)
}
