package post_test

import (
	"testing"

	"withe/api"
)

func TestExample(t *testing.T) {
	p := place{[]string{"x"}, [][]string{{"r"}}, out([]int{1}, 0)}
	p.want(t, and(regIs(0, "r", 1), mem("x", 0)), true)
	p.want(t, or(regIs(0, "r", 0), mem("x", 1)), false)
	p.want(t, not(mem("x", 1)), true)
	p.wantNo(t, mem("r", 1))
	p.wantNo(t, regIs(0, "x", 0))
}

// wantValue asks for all numbers whether what name says has them, where it has v.
func wantValue(t *testing.T, p place, v int, name func(n int) api.Cond) {
	t.Helper()
	for _, n := range append(numbers(), v, v+1, v-1, -v, v+256, v+1<<32) {
		p.want(t, name(n), n == v)
		p.want(t, not(name(n)), n != v)
	}
}

func TestMem(t *testing.T) {
	for i, name := range plain().locs {
		of := func(n int) api.Cond { return mem(name, n) }
		wantValue(t, plain(), []int{2, 0, 1}[i], of)
		for _, v := range numbers() {
			p := plain()
			p.out.Mem[i] = v
			wantValue(t, p, v, of)
		}
	}
	for _, name := range append(strangeNames(), "r", "s", "t", "u", "w") {
		for _, n := range numbers() {
			plain().wantNo(t, mem(name, n))
		}
	}
}

func TestRegIs(t *testing.T) {
	for thread, names := range plain().regs {
		for i, name := range names {
			of := func(n int) api.Cond { return regIs(thread, name, n) }
			wantValue(t, plain(), [][]int{{1, 0}, {}, {2, 3, 0}}[thread][i], of)
			for _, v := range numbers() {
				p := plain()
				p.out.Regs[thread][i] = v
				wantValue(t, p, v, of)
			}
		}
		for _, name := range append(strangeNames(), "x", "y", "z", "w") {
			for n := range 4 {
				plain().wantNo(t, regIs(thread, name, n))
			}
		}
	}
	for n := range 4 { // in another thread alone
		plain().wantNo(t, regIs(0, "t", n))
		plain().wantNo(t, regIs(0, "u", n))
		plain().wantNo(t, regIs(1, "r", n))
		plain().wantNo(t, regIs(1, "s", n))
		plain().wantNo(t, regIs(2, "s", n))
	}
}

func TestThreadsThatAreNone(t *testing.T) {
	for _, thread := range append(numbers(), 3, 4) {
		for _, name := range []string{"r", "s", "t", "u", "x", ""} {
			for n := range 4 {
				if c := regIs(thread, name, n); thread < 0 || thread > 2 {
					plain().wantNo(t, c)
					place{plain().locs, nil, plain().out}.wantNo(t, c)
					place{plain().locs, plain().regs, api.Out{Mem: []int{0, 0, 0}}}.wantNo(t, c)
				}
			}
		}
	}
	for threads := range 6 { // of as many threads as there are the last one is one, and one more is none
		p := place{nil, some(threads, func(i int) []string { return []string{"r"} }), outs(some(threads, func(i int) []int { return []int{10 + i} })...)}
		for thread := -2; thread < 8; thread++ {
			if thread < 0 || thread >= threads {
				p.wantNo(t, regIs(thread, "r", 10+thread))
				continue
			}
			p.want(t, regIs(thread, "r", 10+thread), true)
			p.want(t, regIs(thread, "r", 11+thread), false)
		}
	}
}

// A thread is one, if it is in regs and in o.Regs.
func TestThreadsOnOneSideAlone(t *testing.T) {
	for names := range 5 {
		for vals := range 5 {
			p := place{nil, some(names, func(int) []string { return []string{"r", "s"} }), outs(some(vals, func(i int) []int { return []int{i, i} })...)}
			for thread := -1; thread < 6; thread++ {
				for _, name := range []string{"r", "s"} {
					if thread >= 0 && thread < names && thread < vals {
						p.want(t, regIs(thread, name, thread), true)
						p.want(t, regIs(thread, name, thread+1), false)
					} else {
						p.wantNo(t, regIs(thread, name, thread))
						p.wantNo(t, regIs(thread, name, 0))
					}
				}
			}
		}
	}
}

// A name's place is to be in o too, whatever the other lists have.
func TestPlacesThatAreNotInTheOutcome(t *testing.T) {
	names := []string{"a", "b", "c", "d"}
	for k := range len(names) + 1 {
		for m := range 6 {
			vals := some(m, func(i int) int { return 5 + i })
			locs := place{names[:k], [][]string{names, names}, api.Out{Regs: [][]int{{1, 1, 1, 1}, {1, 1, 1, 1}}, Mem: vals}}
			regs := place{names, [][]string{names, names[:k], names}, api.Out{Regs: [][]int{{1, 1, 1, 1}, vals, {1, 1, 1, 1}}, Mem: []int{1, 1, 1, 1}}}
			for i, name := range names {
				for _, n := range []int{5 + i, 0, 1} {
					if i < k && i < m {
						locs.want(t, mem(name, n), n == 5+i)
						regs.want(t, regIs(1, name, n), n == 5+i)
					} else {
						locs.wantNo(t, mem(name, n))
						regs.wantNo(t, regIs(1, name, n))
					}
				}
				locs.want(t, regIs(0, name, 1), true)
				locs.want(t, regIs(1, name, 1), true)
				regs.want(t, mem(name, 1), true)
				regs.want(t, regIs(0, name, 1), true)
				regs.want(t, regIs(2, name, 1), true)
			}
		}
	}
}

// The first one of those with the same name is asked, whatever the others have.
func TestNamesThatAreThereTwice(t *testing.T) {
	p := place{[]string{"x", "y", "x", "y", "x"}, [][]string{{"r", "s", "r", "s", "s"}, {"s", "r", "r", "s"}}, api.Out{Regs: [][]int{{1, 2, 3, 4, 5}, {6, 7, 8, 9}}, Mem: []int{10, 11, 12, 13, 14}}}
	for n := range 20 {
		p.want(t, mem("x", n), n == 10)
		p.want(t, mem("y", n), n == 11)
		p.want(t, regIs(0, "r", n), n == 1)
		p.want(t, regIs(0, "s", n), n == 2)
		p.want(t, regIs(1, "s", n), n == 6)
		p.want(t, regIs(1, "r", n), n == 7)
	}
	p.out = api.Out{Regs: [][]int{{1}, {}}, Mem: []int{10}}
	p.want(t, mem("x", 10), true)
	p.wantNo(t, mem("y", 11))
	p.want(t, regIs(0, "r", 1), true)
	p.wantNo(t, regIs(0, "s", 2))
	p.wantNo(t, regIs(1, "s", 6))
}

// A location and a register of the same name are two things.
func TestLocationsAndRegistersOfOneName(t *testing.T) {
	p := place{[]string{"r", "x"}, [][]string{{"x", "r"}, {"r", "x"}}, api.Out{Regs: [][]int{{3, 4}, {5, 6}}, Mem: []int{1, 2}}}
	for n := range 9 {
		p.want(t, mem("r", n), n == 1)
		p.want(t, mem("x", n), n == 2)
		p.want(t, regIs(0, "x", n), n == 3)
		p.want(t, regIs(0, "r", n), n == 4)
		p.want(t, regIs(1, "r", n), n == 5)
		p.want(t, regIs(1, "x", n), n == 6)
	}
}

// Names are texts: one that is no Name of the language is there, if it is in the list.
func TestNamesAreTexts(t *testing.T) {
	for i, name := range strangeNames() {
		p := place{[]string{"x", name}, [][]string{nil, {"r", name}}, api.Out{Regs: [][]int{nil, {7, i}}, Mem: []int{8, 20 + i}}}
		p.want(t, mem(name, 20+i), true)
		p.want(t, mem(name, 8), false)
		p.want(t, mem("x", 8), true)
		p.want(t, regIs(1, name, i), true)
		p.want(t, regIs(1, name, 20+i), false)
		p.wantNo(t, regIs(0, name, i))
	}
}

// No sentence says that what a condition has beside what its Op asks for is a no.
func TestWhatElseAConditionHas(t *testing.T) {
	for _, n := range numbers() {
		plain().want(t, api.Cond{Op: api.Mem, Thread: n, Name: "x", N: 2}, true)
		plain().want(t, api.Cond{Op: api.Mem, Thread: n, Name: "y", N: 2}, false)
		plain().wantNo(t, api.Cond{Op: api.Mem, Thread: n, Name: "r", N: 1})
		for _, name := range append(strangeNames(), "x", "r") {
			for _, c := range []api.Cond{and(yes()[0], yes()[1]), or(no()[0], yes()[2]), not(no()[2])} {
				c.Thread, c.Name, c.N = n, name, n+1
				plain().want(t, c, true)
				plain().want(t, not(c), false)
			}
		}
	}
	for _, c := range append(yes(), no()...) {
		was := plain().model().holds(c)
		c.Kids = []api.Cond{}
		plain().want(t, c, was)
	}
}

func TestOpsThatAreNone(t *testing.T) {
	for _, op := range append(numbers(), 0, 6, 7, 8) {
		if op >= api.Mem && op <= api.Or {
			continue
		}
		for kids := range 4 {
			plain().wantNo(t, api.Cond{Op: op, Name: "x", N: 2, Kids: yes()[:kids]})
			plain().wantNo(t, api.Cond{Op: op, Name: "r", N: 1, Kids: no()[:kids]})
			plain().wantNo(t, not(with(op, yes()[:kids]...)))
		}
		for _, c := range holed(api.Cond{Op: op, Name: "x", N: 2}) {
			plain().wantNo(t, c)
		}
	}
}

func TestHowManyKids(t *testing.T) {
	for op, want := range map[int]int{api.Mem: 0, api.RegIs: 0, api.Not: 1, api.And: 2, api.Or: 2} {
		for kids := range 7 {
			for _, kid := range []api.Cond{yes()[0], no()[0], not(yes()[0]), and(yes()[0], no()[2])} {
				c := api.Cond{Op: op, Name: "x", N: 2, Kids: some(kids, func(int) api.Cond { return kid })}
				if op == api.RegIs {
					c.Name, c.N = "r", 1
				}
				if kids == want {
					plain().want(t, c, plain().model().holds(c))
					continue
				}
				plain().wantNo(t, c)
				for _, in := range holed(c)[:40] {
					plain().wantNo(t, in)
				}
			}
		}
	}
}

// A Mem, a RegIs may have no Kids, whatever they are.
func TestKidsOfAMemAndARegIs(t *testing.T) {
	for _, kids := range [][]api.Cond{yes()[:1], no()[:1], yes()[:2], {{}}, {mem("none", 0)}, {with(api.Not)}, {chain(40, api.And, "ab", yes()[0], yes()[0])}, append(yes(), no()...)} {
		for _, c := range append(yes(), no()...) {
			c.Kids = kids
			for _, in := range holed(c) {
				plain().wantNo(t, in)
			}
		}
	}
}

func TestNotAndOr(t *testing.T) {
	for _, y := range yes() {
		plain().want(t, y, true)
		plain().want(t, not(y), false)
		for _, other := range yes() {
			plain().want(t, and(y, other), true)
			plain().want(t, or(y, other), true)
		}
		for _, n := range no() {
			plain().want(t, n, false)
			plain().want(t, not(n), true)
			plain().want(t, and(y, n), false)
			plain().want(t, and(n, y), false)
			plain().want(t, or(y, n), true)
			plain().want(t, or(n, y), true)
			for _, other := range no() {
				plain().want(t, and(n, other), false)
				plain().want(t, or(n, other), false)
			}
			plain().want(t, and(not(n), y), true)
			plain().want(t, or(n, not(y)), false)
			plain().want(t, and(or(n, y), not(and(y, n))), true)
			plain().want(t, or(and(n, y), and(y, not(y))), false)
		}
	}
}

// A no is a no of the whole, also where the other side alone would decide.
func TestANoOnEitherSide(t *testing.T) {
	for _, w := range wrong() {
		for _, other := range append(append(yes(), no()...), wrong()...) {
			for _, op := range []int{api.And, api.Or} {
				plain().wantNo(t, with(op, w, other))
				plain().wantNo(t, with(op, other, w))
				plain().wantNo(t, not(with(op, w, other)))
				plain().wantNo(t, not(with(op, other, w)))
			}
		}
		plain().wantNo(t, not(w))
		plain().wantNo(t, not(not(w)))
	}
}

func TestANoDeepWithin(t *testing.T) {
	for _, w := range wrong() {
		for _, c := range holed(w) {
			plain().wantNo(t, c)
		}
	}
	for _, c := range append(yes(), no()...) { // the same ones, where it is no wrong one
		for _, in := range holed(c) {
			plain().want(t, in, plain().model().holds(in))
		}
	}
	for _, w := range wrong() { // at each place of one that is as wide as may be
		for _, op := range []int{api.And, api.Or} {
			for _, end := range []api.Cond{yes()[0], no()[0]} {
				c := full(4, op, end)
				for i := range condsIn(&c) {
					dented := full(4, op, end)
					*condsIn(&dented)[i] = w
					plain().wantNo(t, dented)
				}
			}
		}
	}
}

func TestHowDeep(t *testing.T) {
	for _, op := range []int{api.And, api.Or} {
		for _, way := range ways() {
			for _, other := range []api.Cond{yes()[0], no()[0]} {
				for _, end := range []api.Cond{yes()[1], no()[2], yes()[3]} {
					for deep := 1; deep <= 12; deep++ {
						c := chain(deep, op, way, end, other)
						if deep <= api.MaxDeep {
							plain().want(t, c, plain().model().holds(c))
						} else {
							plain().wantNo(t, c)
						}
					}
				}
			}
		}
	}
	for deep := 1; deep <= 9; deep++ { // it is gone in to the end
		for _, end := range []api.Cond{yes()[0], no()[0]} {
			if c := chain(deep, api.And, "n", end, end); deep <= api.MaxDeep {
				plain().want(t, c, (deep%2 == 1) == plain().model().holds(end))
			} else {
				plain().wantNo(t, c)
			}
		}
	}
}

// As deep as may be on all sides; one more on one of them is too deep.
func TestHowDeepOnEachSide(t *testing.T) {
	for _, op := range []int{api.And, api.Or} {
		for _, end := range append(yes(), no()...) {
			plain().want(t, full(api.MaxDeep, op, end), plain().model().holds(end))
			plain().wantNo(t, full(api.MaxDeep+1, op, end))
			c := full(api.MaxDeep, op, end)
			for i, in := range condsIn(&c) {
				if len(in.Kids) > 0 {
					continue
				}
				one := full(api.MaxDeep, op, end)
				*condsIn(&one)[i] = not(end)
				plain().wantNo(t, one)
				*condsIn(&one)[i] = yes()[1]
				plain().want(t, one, plain().model().holds(one))
			}
		}
	}
}

// However deep, it is gone in no further than MaxDeep; however wide, it has not as many Kids as its Op has.
func TestVeryDeepAndVeryWide(t *testing.T) {
	for _, op := range []int{api.And, api.Or} {
		for _, way := range []string{"n", "a", "b", "ab"} {
			c := chain(1<<16-10, op, way, yes()[0], yes()[0])
			plain().wantNo(t, c)
			plain().wantNo(t, or(yes()[0], c))
			plain().wantNo(t, and(c, no()[0]))
			c.Op, c.Name, c.N = api.Mem, "x", 2
			plain().wantNo(t, c)
		}
		plain().wantNo(t, full(16, op, yes()[0]))
		plain().wantNo(t, with(op, some(1<<16, func(int) api.Cond { return yes()[0] })...))
		plain().wantNo(t, not(with(op, some(1<<16, func(int) api.Cond { return yes()[0] })...)))
	}
}

// Of nothing nothing can be asked, and nil and an empty list are one.
func TestNothing(t *testing.T) {
	empties := []place{
		{}, {[]string{}, [][]string{}, api.Out{Regs: [][]int{}, Mem: []int{}}}, {nil, [][]string{{}}, outs([]int{})}, {nil, [][]string{nil}, outs(nil)}, {[]string{}, [][]string{nil, {}}, outs(nil, []int{})},
		{locs: []string{"x", "y"}}, {regs: [][]string{{"r"}}}, {plain().locs, plain().regs, api.Out{}}, {nil, nil, plain().out}, {nil, [][]string{{}, {}, {}}, plain().out}, {plain().locs, plain().regs, api.Out{Regs: [][]int{{}, {}, {}}, Mem: []int{}}},
	}
	for _, p := range empties {
		for _, c := range append(append(yes(), no()...), wrong()...) {
			for _, in := range holed(c) {
				p.wantNo(t, in)
			}
		}
		p.wantNo(t, regIs(0, "", 0))
		p.wantNo(t, mem("", 0))
		p.wantNo(t, api.Cond{Kids: []api.Cond{}})
	}
	place{plain().locs, nil, api.Out{Mem: plain().out.Mem}}.want(t, mem("x", 2), true)
	place{nil, plain().regs, api.Out{Regs: plain().out.Regs}}.want(t, regIs(2, "t", 2), true)
}

// Spare room is neither a name nor a value nor a Kid.
func TestSpareRoomIsNotLookedAt(t *testing.T) {
	names, vals := []string{"a", "b", "c"}, []int{1, 2, 3}
	place{names[:1], nil, api.Out{Mem: vals}}.wantNo(t, mem("b", 2))
	place{names, nil, api.Out{Mem: vals[:1]}}.wantNo(t, mem("b", 2))
	place{names[:2], nil, api.Out{Mem: vals[:2]}}.want(t, mem("b", 2), true)
	rows, lists := [][]string{names[:1], names}, [][]int{vals, vals[:1]}
	place{nil, rows, api.Out{Regs: lists}}.wantNo(t, regIs(0, "b", 2))
	place{nil, rows, api.Out{Regs: lists}}.wantNo(t, regIs(1, "b", 2))
	place{nil, rows[:1], api.Out{Regs: lists}}.wantNo(t, regIs(1, "a", 1))
	place{nil, rows, api.Out{Regs: lists[:1]}}.wantNo(t, regIs(1, "a", 1))
	place{nil, rows, api.Out{Regs: lists}}.want(t, regIs(1, "a", 1), true)
	kids := yes()
	plain().wantNo(t, with(api.And, kids[:1]...))
	plain().wantNo(t, with(api.Not, kids[:0]...))
	plain().want(t, with(api.Or, kids[:2]...), true)
}
