package post_test

import (
	"fmt"
	"math"
	"testing"

	"withe/api"
	"withe/post"
)

func mem(name string, n int) api.Cond { return api.Cond{Op: api.Mem, Name: name, N: n} }
func regIs(thread int, name string, n int) api.Cond {
	return api.Cond{Op: api.RegIs, Thread: thread, Name: name, N: n}
}
func with(op int, kids ...api.Cond) api.Cond { return api.Cond{Op: op, Kids: kids} }
func not(a api.Cond) api.Cond                { return with(api.Not, a) }
func and(a, b api.Cond) api.Cond             { return with(api.And, a, b) }
func or(a, b api.Cond) api.Cond              { return with(api.Or, a, b) }

func some[T any](n int, of func(int) T) (l []T) {
	for i := range n {
		l = append(l, of(i))
	}
	return l
}

// place is an outcome with the names of its places.
type place struct {
	locs []string
	regs [][]string
	out  api.Out
}

// plain has three locations and three threads, of which the second one has no registers. r is a register of two threads.
func plain() place {
	return place{[]string{"x", "y", "z"}, [][]string{{"r", "s"}, {}, {"t", "r", "u"}}, api.Out{Regs: [][]int{{1, 0}, {}, {2, 3, 0}}, Mem: []int{2, 0, 1}}}
}

// yes and no are conditions that hold and don't hold in plain.
func yes() []api.Cond {
	return []api.Cond{mem("x", 2), mem("z", 1), regIs(0, "s", 0), regIs(2, "r", 3)}
}
func no() []api.Cond {
	return []api.Cond{mem("x", 0), mem("y", 1), regIs(0, "r", 3), regIs(2, "u", 2)}
}

// wrong are conditions that can't be asked of plain.
func wrong() []api.Cond {
	return []api.Cond{
		{}, {Op: 6}, {Op: -1, Name: "x", N: 2}, mem("r", 2), mem("", 0), mem("X", 2), regIs(0, "t", 2), regIs(1, "r", 1), regIs(-1, "r", 1), regIs(3, "r", 1), regIs(2, "s", 0), regIs(0, "x", 2), {Op: api.Mem, Name: "x", N: 2, Kids: yes()[:1]}, {Op: api.RegIs, Name: "r", N: 1, Kids: yes()[:1]}, with(api.Not), with(api.Not, yes()[:2]...), with(api.And), with(api.And, yes()[0]), with(api.And, yes()[:3]...), with(api.Or), with(api.Or, yes()[0]), with(api.Or, yes()[:3]...),
	}
}

// text is c in brackets, as far in as most.
func text(c api.Cond, most int) string {
	out := fmt.Sprintf("(%d %d:%q %d", c.Op, c.Thread, c.Name, c.N)
	for i, k := range c.Kids {
		if most == 0 || i == 4 {
			out += " .."
			break
		}
		out += " " + text(k, most-1)
	}
	return out + ")"
}

// want asks that c hold, or not, and can be asked.
func (p place) want(t *testing.T, c api.Cond, holds bool) {
	t.Helper()
	if is, ok := post.Holds(c, p.locs, p.regs, p.out); is != holds || !ok {
		t.Errorf("Holds(%s, %q, %q, %v) = %t, %t, not %t, true", text(c, 9), p.locs, p.regs, p.out, is, ok, holds)
	}
}

// wantNo asks that c can't be asked, with the zero value beside the no.
func (p place) wantNo(t *testing.T, c api.Cond) {
	t.Helper()
	if is, ok := post.Holds(c, p.locs, p.regs, p.out); is || ok {
		t.Errorf("Holds(%s, %q, %q, %v) = %t, %t, not false, false", text(c, 9), p.locs, p.regs, p.out, is, ok)
	}
}

// odds are numbers that are far from all that is ordinary.
func odds() []int {
	return []int{math.MinInt, math.MinInt + 1, -1 << 62, -1<<32 - 1, -1 << 32, -1<<31 - 1, -1 << 31, -257, -256, -255, -10, 10, 255, 256, 257, 1 << 31, 1<<31 + 1, 1 << 32, 1<<32 + 1, 1<<32 + 2, 1 << 62, math.MaxInt - 1, math.MaxInt}
}

// numbers are odds, and all numbers from -9 to 9.
func numbers() []int {
	return append(odds(), some(19, func(i int) int { return i - 9 })...)
}

// strangeNames are names that are no Names of the language, or hardly.
func strangeNames() []string {
	return []string{"", " ", "X", "xx", "x ", " x", "x\x00", "\xff", "0", "litmus", "a name that is much longer than names may be"}
}

// chain is that many conditions within one another, with end as the innermost one: way tells by turns whether the next one is a Not (n) of it, or has it as its first Kid (a) or its second one (b), beside other.
func chain(deep, op int, way string, end, other api.Cond) api.Cond {
	c := end
	for i := range deep - 1 {
		switch way[i%len(way)] {
		case 'n':
			c = not(c)
		case 'a':
			c = with(op, c, other)
		default:
			c = with(op, other, c)
		}
	}
	return c
}

// full is a condition with all Kids that may be, that many within one another.
func full(deep, op int, end api.Cond) api.Cond {
	if deep == 1 {
		return end
	}
	return with(op, full(deep-1, op, end), full(deep-1, op, end))
}

// ways are ways for chain.
func ways() []string {
	return []string{"n", "a", "b", "ab", "ba", "na", "nb", "aab", "bbn", "anb"}
}

// holed are conditions with c as one of their Kids, further and further in, which all stand within MaxDeep, if c has no Kids.
func holed(c api.Cond) []api.Cond {
	l := []api.Cond{c}
	for _, op := range []int{api.And, api.Or} {
		for _, way := range ways() {
			for _, other := range []api.Cond{yes()[0], no()[0]} {
				for deep := 2; deep <= api.MaxDeep; deep++ {
					l = append(l, chain(deep, op, way, c, other))
				}
			}
		}
	}
	return append(l, or(yes()[1], and(no()[1], or(c, yes()[2]))), and(or(yes()[0], no()[0]), and(no()[2], not(c))))
}

// condsIn are a condition and all that are within it.
func condsIn(c *api.Cond) []*api.Cond {
	l := []*api.Cond{c}
	for i := range c.Kids {
		l = append(l, condsIn(&c.Kids[i])...)
	}
	return l
}

// copied is a condition that shares nothing with c, and has no spare room.
func copied(c api.Cond) api.Cond {
	if c.Kids != nil {
		kids := make([]api.Cond, len(c.Kids))
		for i, k := range c.Kids {
			kids[i] = copied(k)
		}
		c.Kids = kids
	}
	return c
}

// out has the registers of one thread, and locations.
func out(regs []int, mem ...int) api.Out {
	return api.Out{Regs: [][]int{regs}, Mem: mem}
}

// outs has the registers of threads, and no locations.
func outs(regs ...[]int) api.Out {
	return api.Out{Regs: regs}
}
