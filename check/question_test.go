package check_test

import (
	"testing"

	"withe/api"
)

func TestAsk(t *testing.T) {
	for _, ask := range append(odds(), 0, 1, 2, 3, 4) {
		for _, c := range []api.Cond{mem("x", 1), {}, mem("z", 9), notChain(7, mem("x", 1))} {
			p := asking(c)
			p.Ask = ask
			switch {
			case ask != api.Exists && ask != api.Forall:
				wantMay(t, p, api.ErrArg, question)
			case c.Op == api.Mem && c.Name == "x":
				wantMay(t, p, api.OK, 0)
			case c.Op == 0:
				wantMay(t, p, api.ErrArg, question)
			case c.Op == api.Mem:
				wantMay(t, p, api.ErrName, question)
			default:
				wantMay(t, p, api.ErrLong, question)
			}
		}
	}
}

// notChain is deep conditions within one another, with end as the innermost one.
func notChain(deep int, end api.Cond) api.Cond {
	for range deep - 1 {
		end = join(api.Not, end)
	}
	return end
}

// sideChain is as notChain, with two Kids each, the deep one by turns on the one side and on the other.
func sideChain(deep, op int, end api.Cond) api.Cond {
	for i := range deep - 1 {
		if i%2 == 0 {
			end = join(op, mem("y", 0), end)
		} else {
			end = join(op, end, regIs(0, "r", 2))
		}
	}
	return end
}

func TestHowDeepConditions(t *testing.T) {
	for deep := 1; deep <= 9; deep++ {
		for _, end := range []api.Cond{mem("x", 1), regIs(1, "t", 1)} {
			for _, k := range []struct {
				deep int
				c    api.Cond
			}{{deep, notChain(deep, end)}, {deep, sideChain(deep, api.And, end)}, {deep, sideChain(deep, api.Or, end)}, {deep + 1, sideChain(deep, api.Or, join(api.Not, end))}} {
				if k.deep <= api.MaxDeep {
					wantMay(t, asking(k.c), api.OK, 0)
				} else {
					wantMay(t, asking(k.c), api.ErrLong, question)
				}
			}
		}
	}
	six := notChain(6, mem("x", 1))
	wantMay(t, asking(six), api.OK, 0)
	wantMay(t, asking(join(api.Not, six)), api.ErrLong, question)
	wantMay(t, asking(join(api.And, six, mem("x", 1))), api.ErrLong, question)
	wantMay(t, asking(join(api.Or, mem("x", 1), six)), api.ErrLong, question)
	five := notChain(5, mem("x", 1))
	wantMay(t, asking(join(api.And, five, five)), api.OK, 0)
}

// Too deep is told ahead of all else, wherever the deep one stands, in Kids that may not be there too.
func TestTooDeepConditionsAreToldFirst(t *testing.T) {
	six := notChain(6, api.Cond{})
	for _, c := range []api.Cond{
		{Op: 0, Kids: []api.Cond{six}}, {Op: api.Mem, Name: "z", Thread: 9, Kids: []api.Cond{six}}, {Op: api.RegIs, Thread: 9, Kids: []api.Cond{{}, {}, six}},
		join(api.Not, mem("z", 1), six), join(api.And, mem("z", 9), mem("z", 9), six), join(api.Or, mem("z", 9), six), join(9, six),
	} {
		wantMay(t, asking(c), api.ErrLong, question)
	}
	wantMay(t, asking(six), api.ErrArg, question)
}

// wantCond asks c, and c within others. What is wrong of c is told ahead of what is wrong behind it.
func wantCond(t *testing.T, c api.Cond, err api.Errno) {
	t.Helper()
	part := question
	if err == api.OK {
		part = 0
	}
	x := mem("x", 0)
	for _, in := range []api.Cond{c, join(api.Not, c), join(api.And, c, x), join(api.And, x, c), join(api.Or, c, x), join(api.Or, x, c), join(api.Or, join(api.Not, c), join(api.And, x, x))} {
		wantMay(t, asking(in), err, part)
	}
	behind := asking(join(api.Or, join(api.Not, c), mem("z", 0)))
	if err == api.OK {
		wantMay(t, behind, api.ErrName, question)
	} else {
		wantMay(t, behind, err, question)
	}
}

func TestOpsOfConditions(t *testing.T) {
	atoms := map[int]api.Cond{api.Mem: mem("x", 1), api.RegIs: regIs(1, "t", 1)}
	for _, op := range append(odds(), 0, 1, 2, 3, 4, 5, 6, 7) {
		for n := range 5 {
			c := atoms[op]
			c.Op = op
			for range n {
				c.Kids = append(c.Kids, mem("x", 0))
			}
			if op >= 1 && op <= 5 && n == []int{1: 0, 2: 0, 3: 1, 4: 2, 5: 2}[op] {
				wantCond(t, c, api.OK)
			} else {
				wantCond(t, c, api.ErrArg)
			}
			if op == api.Mem || op == api.RegIs {
				continue
			}
			for _, set := range []func(*api.Cond){
				func(c *api.Cond) { c.Thread = 1 }, func(c *api.Cond) { c.Thread = -1 }, func(c *api.Cond) { c.Name = "x" }, func(c *api.Cond) { c.Name = "r" }, func(c *api.Cond) { c.N = 1 }, func(c *api.Cond) { c.N = -1 },
			} {
				odd := c
				set(&odd)
				wantCond(t, odd, api.ErrArg)
			}
		}
	}
	for _, c := range []api.Cond{mem("x", 1), regIs(1, "t", 1)} {
		c.Kids = []api.Cond{}
		wantCond(t, c, api.OK)
	}
}

func TestMem(t *testing.T) {
	for n := range 3 {
		wantCond(t, mem("x", n), api.OK)
		wantCond(t, mem("y", n), api.OK)
	}
	for _, n := range append(odds(), 3, 4) {
		wantCond(t, mem("x", n), api.ErrArg)
		wantCond(t, mem("z", n), api.ErrName)
	}
	for _, name := range append(wrongNames(), "z", "r", "s", "t", "X", "xx", "a") {
		wantCond(t, mem(name, 0), api.ErrName)
		for _, thread := range append(odds(), 1, 2) {
			wantCond(t, api.Cond{Op: api.Mem, Thread: thread, Name: name}, api.ErrArg)
			wantCond(t, api.Cond{Op: api.Mem, Thread: thread, Name: "x"}, api.ErrArg)
		}
		wantCond(t, api.Cond{Op: api.Mem, Name: name, Kids: []api.Cond{mem("x", 0)}}, api.ErrArg)
	}
}

func TestRegIs(t *testing.T) {
	of := [][]string{{"r", "s"}, {"t"}}
	for thread, regs := range of {
		for _, r := range regs {
			for n := range 3 {
				wantCond(t, regIs(thread, r, n), api.OK)
				wantCond(t, regIs(1-thread, r, n), api.ErrName)
			}
			for _, n := range append(odds(), 3, 4) {
				wantCond(t, regIs(thread, r, n), api.ErrArg)
				wantCond(t, regIs(1-thread, r, n), api.ErrName)
			}
		}
		for _, r := range append(wrongNames(), "x", "y", "R", "rr", "a") {
			wantCond(t, regIs(thread, r, 0), api.ErrName)
			wantCond(t, regIs(thread, r, 9), api.ErrName)
			wantCond(t, api.Cond{Op: api.RegIs, Thread: thread, Name: r, Kids: []api.Cond{{}}}, api.ErrArg)
		}
	}
	for _, thread := range append(odds(), 2, 3, 4, 5) {
		wantCond(t, regIs(thread, "r", 1), api.ErrArg)
		wantCond(t, regIs(thread, "none", 9), api.ErrArg)
		wantCond(t, regIs(thread, "x", 0), api.ErrArg)
	}
}

// All registers that a thread sets are there, wherever it sets them; those of a thread without any are not.
func TestRegIsOfEachThread(t *testing.T) {
	for _, s := range each()[1:] {
		for threads := 1; threads <= api.MaxThreads; threads++ {
			for own := range threads {
				all := make([][]api.Stmt, threads)
				all[own] = stmts(fence(), s)
				for thread := -1; thread <= threads; thread++ {
					p := prog(all...)
					p.Cond = regIs(thread, "r", 1)
					switch {
					case thread < 0 || thread == threads:
						wantMay(t, p, api.ErrArg, 5)
					case thread == own && s.Reg == "r":
						wantMay(t, p, api.OK, 0)
					default:
						wantMay(t, p, api.ErrName, 5)
					}
				}
			}
		}
	}
	four := stmts(when(num(1), stmts(set("a", num(0))), stmts(set("b", num(0)), when(num(1), nil, stmts(set("c", num(0)))))), set("d", num(0)))
	for _, r := range []string{"a", "b", "c", "d"} {
		p := prog(nil, four)
		p.Cond = regIs(1, r, 2)
		wantMay(t, p, api.OK, 0)
		p.Cond = regIs(0, r, 2)
		wantMay(t, p, api.ErrName, 9)
	}
}

func TestValuesOfTheQuestion(t *testing.T) {
	for vals := 2; vals <= api.MaxVals; vals++ {
		for n := -2; n <= 6; n++ {
			for _, c := range []api.Cond{mem("x", n), regIs(0, "r", n)} {
				p := asking(c)
				p.Vals, p.Init[1].N = vals, 1
				if n >= 0 && n <= vals-1 {
					wantMay(t, p, api.OK, 0)
				} else {
					wantMay(t, p, api.ErrArg, question)
				}
			}
		}
	}
}

// A Kid is told after what it is in, the first one with all that is within it ahead of the second one.
func TestOrderWithinACondition(t *testing.T) {
	z, nine := mem("z", 0), mem("x", 9)
	for _, op := range []int{api.And, api.Or} {
		wantCond(t, join(op, z, nine), api.ErrName)
		wantCond(t, join(op, nine, z), api.ErrArg)
		wantCond(t, join(op, join(api.Not, z), nine), api.ErrName)
		wantCond(t, join(op, join(api.Not, nine), z), api.ErrArg)
		wantCond(t, join(op, join(op, mem("x", 1), z), nine), api.ErrName)
		wantCond(t, join(op, mem("x", 1), join(op, z, nine)), api.ErrName)
		wantCond(t, join(op, z), api.ErrArg)
		wantCond(t, join(op, z, z, z), api.ErrArg)
		wantCond(t, api.Cond{Op: op, N: 1, Kids: []api.Cond{z, z}}, api.ErrArg)
	}
	wantCond(t, join(api.Not, z, z), api.ErrArg)
	wantCond(t, api.Cond{Op: api.Not, Name: "x", Kids: []api.Cond{z}}, api.ErrArg)
	wantCond(t, join(api.Not, join(9, z)), api.ErrArg)
}

// The question's number is one behind the last statement's.
func TestNumberOfTheQuestion(t *testing.T) {
	for inits := range api.MaxLocs + 1 {
		for threads := 1; threads <= api.MaxThreads; threads++ {
			p := bare()
			p.Init, p.Threads, p.Ask = cells(inits), nil, 0
			n := 0
			for i := range threads {
				p.Threads = append(p.Threads, stmts(when(num(1), many(i, fence()), many(2*i, set1())), set1()))
				n += 2 + 3*i
			}
			wantMay(t, p, api.ErrArg, 1+inits+n)
			p.Ask, p.Cond = 1, mem("none", 0)
			wantMay(t, p, api.ErrName, 1+inits+n)
			p.Cond = notChain(7, p.Cond)
			wantMay(t, p, api.ErrLong, 1+inits+n)
		}
	}
}
