package check_test

import (
	"strconv"
	"testing"

	"withe/api"
)

func TestStmts(t *testing.T) {
	wantStmts(t, nil, 0)
	wantStmts(t, []api.Stmt{}, 0)
	wantStmts(t, stmts(fence()), 1)
	wantStmts(t, make([]api.Stmt, 5), 5)
	wantStmts(t, stmts(when(num(1), nil, nil)), 1)
	wantStmts(t, stmts(when(num(1), []api.Stmt{}, []api.Stmt{})), 1)
	wantStmts(t, stmts(when(num(1), stmts(fence()), nil)), 2)
	wantStmts(t, stmts(when(num(1), nil, stmts(fence()))), 2)
	wantStmts(t, stmts(when(num(1), stmts(fence(), fence()), stmts(fence())), fence()), 5)
	wantStmts(t, stmts(fence(), when(num(1), stmts(when(num(1), stmts(fence()), nil), fence()), stmts(when(num(0), nil, stmts(fence(), fence()))))), 8)
	wantStmts(t, stmts(set("r", num(1)), set("r", num(1))), 2)
}

// Statements within one that may have none are counted too.
func TestStmtsOfEachKind(t *testing.T) {
	for _, kind := range append(odds(), 0, 1, 2, 3, 4, 5, 6, 7, 8) {
		wantStmts(t, stmts(api.Stmt{Kind: kind}), 1)
		wantStmts(t, stmts(api.Stmt{Kind: kind, Then: stmts(fence(), fence())}), 3)
		wantStmts(t, stmts(api.Stmt{Kind: kind, Else: stmts(fence())}, api.Stmt{Kind: kind, Then: stmts(api.Stmt{Kind: kind})}), 4)
	}
}

func TestRegs(t *testing.T) {
	wantRegs(t, nil)
	wantRegs(t, []api.Stmt{})
	wantRegs(t, stmts(fence(), store("x", reg("r")), when(reg("r"), nil, nil)))
	wantRegs(t, stmts(set("r", reg("s"))), "r")
	wantRegs(t, stmts(set("a", num(0)), load("b", "x"), add("c", "y", num(1)), cas("d", "z", num(1), num(2))), "a", "b", "c", "d")
	wantRegs(t, stmts(cas("d", "z", num(1), num(2)), add("c", "y", num(1)), load("b", "x"), set("a", num(0))), "d", "c", "b", "a")
	wantRegs(t, stmts(set("r", num(0)), load("r", "x"), set("r", num(1))), "r")
	wantRegs(t, stmts(set("b", num(0)), set("a", num(0)), set("b", num(1)), set("c", num(1)), set("a", num(1))), "b", "a", "c")
	wantRegs(t, stmts(set("", num(0)), set("x y", num(0)), set("load", num(0)), set("", num(0))), "", "x y", "load")
	wantRegs(t, stmts(set("R", num(0)), set("r", num(0))), "R", "r")
}

func TestRegsWithinOthers(t *testing.T) {
	a, b, c, d := set("a", num(0)), set("b", num(0)), set("c", num(0)), set("d", num(0))
	wantRegs(t, stmts(when(num(1), stmts(a), nil)), "a")
	wantRegs(t, stmts(when(num(1), nil, stmts(a))), "a")
	wantRegs(t, stmts(when(num(1), stmts(b), stmts(a))), "b", "a")
	wantRegs(t, stmts(when(num(1), stmts(b), stmts(a)), d, c), "b", "a", "d", "c")
	wantRegs(t, stmts(d, when(num(1), stmts(b, c), stmts(a, b))), "d", "b", "c", "a")
	wantRegs(t, stmts(when(num(1), stmts(c, when(num(1), nil, stmts(b))), stmts(when(num(1), stmts(a), stmts(d))))), "c", "b", "a", "d")
	wantRegs(t, stmts(when(num(1), nil, stmts(a, b)), b, a), "a", "b")
	wantRegs(t, stmts(when(num(1), stmts(a), stmts(a)), a), "a")
}

func TestRegsOfEachKind(t *testing.T) {
	in := stmts(set("c", num(0)))
	for _, kind := range append(odds(), 0, api.Store, api.Fence, api.If, 8) {
		wantRegs(t, stmts(api.Stmt{Kind: kind, Reg: "r"}))
		wantRegs(t, stmts(api.Stmt{Kind: kind, Reg: "r", Then: stmts(set("b", num(0))), Else: in}), "b", "c")
	}
	for _, kind := range []int{api.Set, api.Load, api.Add, api.Cas} {
		wantRegs(t, stmts(api.Stmt{Kind: kind, Reg: "r"}), "r")
		wantRegs(t, stmts(api.Stmt{Kind: kind, Reg: "r", Mode: 9, Then: stmts(set("b", num(0))), Else: in}), "r", "b", "c")
	}
}

func TestWhatMayBe(t *testing.T) {
	wantMay(t, bare(set("r", num(0))), api.OK, 0)
	wantMay(t, prog(nil), api.OK, 0)
	wantMay(t, prog([]api.Stmt{}, nil), api.OK, 0)
	wantMay(t, prog(each()[1:]), api.OK, 0)
	wantMay(t, prog(each()[1:], each()[1:], each()[1:], each()[1:]), api.OK, 0)
	wantMay(t, asking(join(api.Or, join(api.And, regIs(0, "r", 1), regIs(1, "t", 0)), join(api.Not, mem("y", 2)))), api.OK, 0)
	p := prog(nil)
	p.Threads[0] = stmts(load("r", "x"), when(pair(api.Eq, reg("r"), num(1)), stmts(store("y", reg("r"))), stmts(set("s", num(2)), cas("s", "x", reg("s"), pair(api.Plus, reg("r"), num(1))))), add("u", "y", pair(api.Less, num(0), reg("s"))), fence())
	p.Ask, p.Cond = api.Forall, join(api.Not, regIs(0, "u", 2))
	wantMay(t, p, api.OK, 0)
}

func TestNothing(t *testing.T) {
	wantMay(t, api.Prog{}, api.ErrName, 0)
	wantMay(t, api.Prog{Name: "a"}, api.ErrArg, 0)
	wantMay(t, api.Prog{Name: "a", Vals: 2}, api.ErrArg, 0)
	wantMay(t, api.Prog{Name: "a", Vals: 2, Threads: make([][]api.Stmt, 1)}, api.ErrArg, 1)
	wantMay(t, api.Prog{Name: "a", Vals: 2, Threads: make([][]api.Stmt, 1), Ask: 1}, api.ErrArg, 1)
}

func TestHead(t *testing.T) {
	p := bare(set("r", num(0)))
	for _, s := range rightNames() {
		p.Name = s
		wantMay(t, p, api.OK, 0)
	}
	for _, s := range []string{"x", "r", "y"} { // a location's name, a register's, another one's
		p = prog(stmts(set("r", num(0))))
		p.Name = s
		wantMay(t, p, api.OK, 0)
	}
	for _, s := range wrongNames() {
		p.Name = s
		wantMay(t, p, api.ErrName, 0)
	}
	for vals := -20; vals <= 20; vals++ {
		p = bare(set("r", num(1)))
		p.Vals = vals
		if vals >= 2 && vals <= api.MaxVals {
			wantMay(t, p, api.OK, 0)
		} else {
			wantMay(t, p, api.ErrArg, 0)
		}
	}
	for _, vals := range odds() {
		p.Vals = vals
		wantMay(t, p, api.ErrArg, 0)
	}
}

func cells(n int) []api.Cell {
	var l []api.Cell
	for i := range n {
		l = append(l, api.Cell{Loc: "x" + strconv.Itoa(i)})
	}
	return l
}

func TestHowManyInitsAndThreads(t *testing.T) {
	one := stmts(set("r", num(0)))
	for n := range 10 {
		p := bare(one...)
		p.Init = cells(n)
		if n <= api.MaxLocs {
			wantMay(t, p, api.OK, 0)
		} else {
			wantMay(t, p, api.ErrLong, 0)
		}
		p = bare()
		p.Threads = nil
		for range n {
			p.Threads = append(p.Threads, one)
		}
		switch {
		case n == 0:
			wantMay(t, p, api.ErrArg, 0)
		case n <= api.MaxThreads:
			wantMay(t, p, api.OK, 0)
		default:
			wantMay(t, p, api.ErrLong, 0)
		}
	}
	p := bare(one...)
	p.Init = []api.Cell{}
	wantMay(t, p, api.OK, 0)
	p.Threads = [][]api.Stmt{}
	wantMay(t, p, api.ErrArg, 0)
}

// All ways of having several things wrong of the head: the first is told, whatever else is wrong behind it.
func TestOrderOfTheHead(t *testing.T) {
	for set := 1; set < 1<<6; set++ {
		p := prog(nil)
		var errs []api.Errno
		if set&1 != 0 {
			p.Name, errs = "9", append(errs, api.ErrName)
		}
		if set&2 != 0 {
			p.Vals, errs = 1, append(errs, api.ErrArg)
		}
		if set&4 != 0 {
			p.Init, errs = cells(5), append(errs, api.ErrLong)
		}
		if set&8 != 0 {
			p.Threads, errs = nil, append(errs, api.ErrArg)
		} else if set&16 != 0 {
			p.Threads, errs = make([][]api.Stmt, 5), append(errs, api.ErrLong)
		}
		if set&32 != 0 {
			p.Init = append(cells(2), p.Init[2:]...)
			p.Init[0].Loc, p.Ask = "", 0
			if len(p.Threads) > 0 {
				p.Threads[0] = make([]api.Stmt, 1)
			}
			if len(errs) == 0 {
				wantMay(t, p, api.ErrName, 1)
				continue
			}
		}
		if len(errs) > 0 {
			wantMay(t, p, errs[0], 0)
		}
	}
}

func TestInits(t *testing.T) {
	for at := range api.MaxLocs {
		of := func(set func(*api.Cell)) api.Prog {
			p := bare(set1())
			p.Vals, p.Init = 3, cells(api.MaxLocs)
			set(&p.Init[at])
			return p
		}
		for _, s := range wrongNames() {
			wantMay(t, of(func(c *api.Cell) { c.Loc = s }), api.ErrName, at+1)
			wantMay(t, of(func(c *api.Cell) { c.Loc, c.N = s, -1 }), api.ErrName, at+1)
		}
		for _, s := range []string{"a", "X1", "abcdefgh", "Init"} { // the program's name too
			wantMay(t, of(func(c *api.Cell) { c.Loc = s }), api.OK, 0)
		}
		for other := range api.MaxLocs {
			p := of(func(c *api.Cell) { c.Loc = "x" + strconv.Itoa(other) })
			if other == at {
				wantMay(t, p, api.OK, 0)
			} else {
				wantMay(t, p, api.ErrName, max(at, other)+1)
			}
			p.Init[at].N = 3
			if other < at {
				wantMay(t, p, api.ErrName, at+1)
			} else {
				wantMay(t, p, api.ErrArg, at+1)
			}
		}
		for n := -5; n <= 9; n++ {
			p := of(func(c *api.Cell) { c.N = n })
			for vals := 2; vals <= api.MaxVals; vals++ {
				p.Vals = vals
				if n >= 0 && n <= vals-1 {
					wantMay(t, p, api.OK, 0)
				} else {
					wantMay(t, p, api.ErrArg, at+1)
				}
			}
		}
		for _, n := range odds() {
			wantMay(t, of(func(c *api.Cell) { c.N = n }), api.ErrArg, at+1)
		}
	}
}

// set1 is a statement that may be wherever r may.
func set1() api.Stmt { return set("r", num(1)) }

func TestInitsAllTheSame(t *testing.T) {
	p := bare(set1())
	p.Init = []api.Cell{{Loc: "z"}, {Loc: "z"}, {Loc: "z"}}
	wantMay(t, p, api.ErrName, 2)
	p.Init[1].Loc = "Z"
	wantMay(t, p, api.ErrName, 3)
	p.Init[2].Loc = "z1"
	wantMay(t, p, api.OK, 0)
}
