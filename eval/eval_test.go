package eval_test

import (
	"math"
	"strings"
	"testing"

	"withe/api"
)

func TestNums(t *testing.T) {
	for _, c := range []struct{ v, n, want int }{
		{0, 2, 0}, {1, 2, 1}, {2, 2, 0}, {3, 2, 1}, {-1, 2, 1}, {-2, 2, 0}, {-3, 2, 1},
		{0, 3, 0}, {2, 3, 2}, {3, 3, 0}, {4, 3, 1}, {5, 3, 2}, {7, 3, 1}, {-1, 3, 2}, {-2, 3, 1}, {-3, 3, 0}, {-4, 3, 2},
		{0, 4, 0}, {1, 4, 1}, {3, 4, 3}, {4, 4, 0}, {5, 4, 1}, {9, 4, 1}, {-1, 4, 3}, {-3, 4, 1}, {-4, 4, 0}, {-5, 4, 3},
		{math.MaxInt, 2, 1}, {math.MaxInt, 3, 1}, {math.MaxInt, 4, 3}, {math.MinInt, 2, 0}, {math.MinInt, 3, 1}, {math.MinInt, 4, 0}, {1 << 62, 3, 1}, {1<<32 + 3, 4, 3},
	} {
		place{n: c.n}.want(t, num(c.v), c.want)
		plain(c.n).want(t, num(c.v), c.want)
		place{[]string{"a", "q", "q"}, []int{0, c.v, 1 + c.v}, c.n}.want(t, reg("q"), c.want)
		for _, e := range []api.Expr{plus(num(0), num(c.v)), plus(num(c.v), num(0)), minus(num(c.v), num(0))} {
			plain(c.n).want(t, e, c.want)
		}
		plain(c.n).want(t, eq(num(c.v), num(c.want)), 1)
		plain(c.n).want(t, eq(num(c.v), num(c.want+1)), 0)
		plain(c.n).want(t, less(num(c.v), num(c.want)), 0)
	}
}

// All numbers go round, as many turns as they are away, in Nums and in registers alike.
func TestNumbersGoRound(t *testing.T) {
	for n := 2; n <= api.MaxVals; n++ {
		for _, v := range numbers() {
			want := model{n: n}.round(v)
			place{n: n}.want(t, num(v), want)
			place{[]string{"r"}, []int{v}, n}.want(t, reg("r"), want)
			if v < math.MaxInt-n {
				plain(n).want(t, num(v+n), want)
			}
		}
	}
}

// tables are what the Ops come to, of a in the row and b in the column.
func tables(n int) map[int]string {
	return []map[int]string{
		2: {api.Plus: "01 10", api.Minus: "01 10", api.Eq: "10 01", api.Less: "01 00"},
		3: {api.Plus: "012 120 201", api.Minus: "021 102 210", api.Eq: "100 010 001", api.Less: "011 001 000"},
		4: {api.Plus: "0123 1230 2301 3012", api.Minus: "0321 1032 2103 3210", api.Eq: "1000 0100 0010 0001", api.Less: "0111 0011 0001 0000"},
	}[n]
}

// comingTo are expressions that come to v where there are n values, and the registers b0, b1 and so on have numbers below 0 that count as 0, 1 and so on, a0, a1 and so on ones above n - 1.
func comingTo(v, n int) []api.Expr {
	digit := string(rune('0' + v))
	return []api.Expr{
		num(v), num(v - n), num(v + n), num(v + 4*n), num(v - 5*n), reg("v" + digit), reg("b" + digit), reg("a" + digit),
		plus(num(v), num(0)), plus(num(n-1), num(v+1)), minus(num(v), num(0)), minus(num(0), num(n-v)), minus(reg("v"+digit), num(n)),
	}
}

func digits(n int) place {
	p := place{n: n}
	for v := range n {
		digit := string(rune('0' + v))
		p.regs = append(p.regs, "v"+digit, "b"+digit, "a"+digit)
		p.vals = append(p.vals, v, v-3*n, v+2*n)
	}
	return p
}

func TestOps(t *testing.T) {
	for n := 2; n <= api.MaxVals; n++ {
		for op, table := range tables(n) {
			for a, row := range strings.Fields(table) {
				for b, v := range row {
					for _, x := range comingTo(a, n) {
						for _, y := range comingTo(b, n) {
							digits(n).want(t, pair(op, x, y), int(v-'0'))
						}
					}
				}
			}
		}
	}
}

func TestExamples(t *testing.T) {
	place{[]string{"r"}, []int{3}, 4}.want(t, plus(num(1), reg("r")), 0)
	p := place{[]string{"r", "s"}, []int{2, 3}, 4}
	p.want(t, minus(minus(num(1), reg("r")), reg("s")), 0)
	p.want(t, minus(num(1), minus(reg("r"), reg("s"))), 2)
	p.want(t, less(reg("r"), reg("s")), 1)
	p.want(t, less(reg("s"), reg("r")), 0)
	p.want(t, eq(less(reg("s"), reg("r")), less(reg("r"), reg("r"))), 1)
	p.want(t, eq(plus(reg("r"), num(1)), reg("s")), 1)
	p.want(t, plus(eq(num(1), num(5)), less(num(4), num(1))), 2)
}

func TestRegistersThatAreThereTwice(t *testing.T) {
	p := place{[]string{"r", "s", "r", "s", "s", "q", "r"}, []int{3, 1, 0, 2, 3, -1, 2}, 4}
	p.want(t, reg("r"), 3)
	p.want(t, reg("s"), 1)
	p.want(t, reg("q"), 3)
	p.want(t, plus(reg("r"), reg("s")), 0)
	p.want(t, minus(reg("s"), reg("r")), 2)
	p.want(t, eq(reg("q"), reg("r")), 1)
	p.want(t, less(reg("s"), reg("q")), 1)
	for _, v := range numbers() { // the first one counts, whatever number it has, and whatever the others have
		want := model{n: 3}.round(v)
		place{[]string{"r", "r"}, []int{v, v + 1}, 3}.want(t, reg("r"), want)
		place{[]string{"s", "r", "r", "r"}, []int{v + 1, v, v + 2, v + 1}, 3}.want(t, reg("r"), want)
		place{[]string{"r", "s", "r"}, []int{v, 1, 2}, 3}.want(t, eq(reg("r"), num(v)), 1)
	}
}

// What registers have that are not asked changes nothing, nor do names that are none.
func TestNamesThatAreNotAsked(t *testing.T) {
	for _, v := range numbers() {
		for _, name := range []string{"", "s", "R", "rr", "r ", " r", "\xff", "litmus", "a name that is much longer than names may be"} {
			p := place{[]string{name, "r", name}, []int{v, 2, v + 1}, 3}
			p.want(t, reg("r"), 2)
			p.want(t, plus(reg("r"), num(2)), 1)
			p.want(t, num(1), 1)
			p.want(t, reg(name), model{n: 3}.round(v))
		}
	}
}

func TestRegistersThatAreNotThere(t *testing.T) {
	for _, name := range []string{"", "z", "R", "rr", "r ", " r", "r\x00", "rs", "S", "\xff", "1", "0"} {
		for n := 2; n <= api.MaxVals; n++ {
			for _, e := range holed(reg(name)) {
				plain(n).wantNo(t, e)
				place{n: n}.wantNo(t, e)
			}
			for _, op := range pairOps() {
				plain(n).wantNo(t, pair(op, reg(name), reg("r")))
				plain(n).wantNo(t, pair(op, reg("r"), reg(name)))
				plain(n).wantNo(t, pair(op, reg(name), reg(name)))
			}
		}
	}
	for n := 2; n <= api.MaxVals; n++ { // the same expressions, where the register is there
		for _, e := range holed(reg("r")) {
			plain(n).want(t, e, plain(n).model().value(e))
		}
	}
}

func TestHowManyValues(t *testing.T) {
	three := func(n int) place { return place{[]string{"r", "s", "t"}, []int{1, 0, 3}, n} }
	for _, n := range numbers() {
		for _, e := range append(holed(num(1)), reg("r"), reg("t"), num(-1), num(n), num(0), plus(num(0), num(0))) {
			if n == 2 || n == 3 || n == api.MaxVals {
				three(n).want(t, e, three(n).model().value(e))
				continue
			}
			three(n).wantNo(t, e)
			place{n: n}.wantNo(t, e)
		}
		for _, e := range []api.Expr{{}, reg("z"), with(api.Plus, num(1))} {
			three(n).wantNo(t, e)
		}
	}
	three(1).wantNo(t, num(0))
	three(2).want(t, num(0), 0)
	three(api.MaxVals).want(t, num(api.MaxVals-1), api.MaxVals-1)
	three(api.MaxVals+1).wantNo(t, num(0))
}

func TestAsManyValsAsRegs(t *testing.T) {
	names := []string{"r", "s", "t", "u", "v", "w"}
	for k := range 7 {
		for m := range 7 {
			for n := 2; n <= api.MaxVals; n++ {
				p := place{names[:k:k], make([]int, m), n}
				for _, e := range []api.Expr{num(1), plus(num(1), num(0)), eq(num(2), num(1+n)), less(num(0), num(1))} {
					if k == m {
						p.want(t, e, p.model().value(e))
					} else {
						p.wantNo(t, e)
					}
				}
				for i, name := range names { // a register with a value may be asked no more than one without
					if k == m && i < k {
						p.want(t, reg(name), 0)
					} else {
						p.wantNo(t, reg(name))
						p.wantNo(t, plus(num(1), reg(name)))
					}
				}
			}
		}
	}
	place{[]string{}, nil, 4}.want(t, num(3), 3)
	place{nil, []int{}, 4}.want(t, num(3), 3)
	place{[]string{}, []int{}, 4}.want(t, num(3), 3)
	place{[]string{"r"}, nil, 4}.wantNo(t, num(3))
	place{nil, []int{1}, 4}.wantNo(t, num(3))
}

// Spare room is neither a register nor a value.
func TestSpareRoomIsNotLookedAt(t *testing.T) {
	regs, vals := []string{"r", "s", "t"}, []int{1, 2, 3}
	place{regs[:1], vals[:1], 4}.wantNo(t, reg("s"))
	place{regs[:2], vals[:1], 4}.wantNo(t, reg("s"))
	place{regs[:1], vals[:2], 4}.wantNo(t, reg("r"))
	place{regs[:2], vals[:2], 4}.want(t, reg("s"), 2)
	kids := []api.Expr{num(1), num(1), num(1)}
	place{n: 4}.wantNo(t, with(api.Plus, kids[:1]...))
	place{n: 4}.want(t, with(api.Plus, kids[:2]...), 2)
}

func TestTrue(t *testing.T) {
	p := place{[]string{"r", "s", "q"}, []int{0, 3, 4}, 4}
	for _, e := range []api.Expr{num(0), num(4), num(-4), reg("r"), reg("q"), plus(num(1), num(3)), minus(reg("s"), num(3)), eq(num(1), num(2)), less(num(2), num(1)), less(reg("q"), reg("r"))} {
		p.want(t, e, 0)
	}
	for _, e := range []api.Expr{num(1), num(5), num(-3), eq(reg("r"), reg("q")), less(reg("r"), num(1)), minus(num(0), reg("s"))} {
		p.want(t, e, 1)
	}
	for _, e := range []api.Expr{num(2), num(-2), num(6), plus(num(1), num(1)), plus(eq(num(0), num(0)), eq(num(1), num(1))), minus(num(1), reg("s"))} {
		p.want(t, e, 2)
	}
	for _, e := range []api.Expr{num(3), num(-1), reg("s"), minus(reg("r"), num(1))} {
		p.want(t, e, 3)
	}
	for _, e := range []api.Expr{{}, {Op: 7, N: 1}, reg("z"), with(api.Less, num(1)), eq(num(0), reg("z")), chain(7, api.Plus, "a", num(1))} {
		p.wantNo(t, e)
	}
	place{p.regs, p.vals[:2], 4}.wantNo(t, num(1))
	place{p.regs, p.vals, 5}.wantNo(t, num(1))
	place{p.regs, p.vals, 1}.wantNo(t, num(1))
}
