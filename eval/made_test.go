package eval_test

import (
	"testing"

	"withe/api"
)

func TestOpsThatAreNone(t *testing.T) {
	for _, op := range append(numbers(), 0, 7, 8) {
		if op >= api.Num && op <= api.Less {
			continue
		}
		for kids := range 4 {
			e := api.Expr{Op: op, N: 1, Name: "r", Kids: some(kids, num)}
			for n := 2; n <= api.MaxVals; n++ {
				plain(n).wantNo(t, e)
				plain(n).wantNo(t, plus(e, num(1)))
				plain(n).wantNo(t, less(num(1), e))
				plain(n).wantNo(t, eq(num(1), minus(e, e)))
			}
		}
		for _, e := range holed(api.Expr{Op: op}) {
			plain(3).wantNo(t, e)
		}
	}
}

func TestHowManyKids(t *testing.T) {
	for _, op := range pairOps() {
		for kids := range 7 {
			for _, of := range []func(int) api.Expr{num, func(int) api.Expr { return reg("r") }, func(i int) api.Expr { return plus(num(i), num(1)) }} {
				e := with(op, some(kids, of)...)
				for n := 2; n <= api.MaxVals; n++ {
					if kids == 2 {
						plain(n).want(t, e, plain(n).model().value(e))
						continue
					}
					plain(n).wantNo(t, e)
					plain(n).wantNo(t, plus(num(1), e))
					plain(n).wantNo(t, less(e, num(1)))
					plain(n).wantNo(t, eq(num(1), minus(num(0), e)))
				}
			}
		}
		plain(4).wantNo(t, api.Expr{Op: op, Kids: []api.Expr{}})
		plain(4).wantNo(t, api.Expr{Op: op, N: 1, Name: "r"})
		plain(4).wantNo(t, with(op, num(1), num(1), api.Expr{}))
		plain(4).wantNo(t, with(op, num(1), api.Expr{}))
		plain(4).wantNo(t, with(op, api.Expr{}, num(1)))
		plain(4).wantNo(t, with(op, api.Expr{}, num(1), num(1)))
		for _, none := range []api.Expr{with(op), with(op, num(1)), with(op, num(1), num(1), num(1))} {
			for _, e := range holed(none)[:30] {
				plain(4).wantNo(t, e)
			}
		}
	}
}

// notLookedAt are Kids that would be no Kids of a Plus.
func notLookedAt() [][]api.Expr {
	return [][]api.Expr{
		{}, {{}}, {num(1)}, {num(1), num(2)}, {reg("z")}, {reg("z"), {Op: 9}}, {num(1), num(2), num(3)}, {with(api.Plus)}, {chain(5, api.Plus, "a", num(1))}, {chain(9, api.Plus, "ab", num(1)), chain(40, api.Less, "b", api.Expr{})},
	}
}

func TestWhatElseANumHas(t *testing.T) {
	for _, kids := range notLookedAt() {
		for _, name := range []string{"", "r", "z", "\xff", "litmus"} {
			for _, v := range []int{-1, 0, 1, 2, 3, 4, 5} {
				e := api.Expr{Op: api.Num, N: v, Name: name, Kids: kids}
				want := model{n: 3}.round(v)
				plain(3).want(t, e, want)
				place{n: 3}.want(t, e, want)
				plain(3).want(t, plus(e, num(0)), want)
				plain(3).want(t, minus(e, reg("s")), want)
				plain(3).want(t, eq(num(v), e), 1)
				plain(3).want(t, chain(api.MaxDeep, api.Plus, "a", e), (want+5)%3)
				plain(3).wantNo(t, chain(api.MaxDeep+1, api.Plus, "a", e))
			}
		}
	}
}

func TestWhatElseARegHas(t *testing.T) {
	for _, kids := range notLookedAt() {
		for _, v := range numbers() {
			e := api.Expr{Op: api.Reg, N: v, Name: "t", Kids: kids}
			plain(4).want(t, e, 3)
			plain(4).want(t, plus(e, num(2)), 1)
			plain(4).want(t, less(num(2), e), 1)
			plain(4).want(t, chain(api.MaxDeep, api.Minus, "a", e), 2)
			plain(4).wantNo(t, chain(api.MaxDeep+1, api.Minus, "a", e))
			e.Name = "z"
			plain(4).wantNo(t, e)
			plain(4).wantNo(t, plus(num(1), e))
		}
	}
}

// No sentence says that a Plus, Minus, Eq, Less with a Name or an N comes to nothing.
func TestWhatElseAPairHas(t *testing.T) {
	for _, op := range pairOps() {
		for _, name := range []string{"", "r", "z", "\xff"} {
			for _, v := range numbers() {
				e := api.Expr{Op: op, N: v, Name: name, Kids: []api.Expr{num(3), reg("r")}}
				plain(4).want(t, e, plain(4).model().value(pair(op, num(3), reg("r"))))
			}
		}
	}
}

func TestHowDeep(t *testing.T) {
	for n := 2; n <= api.MaxVals; n++ {
		for _, op := range pairOps() {
			for _, way := range ways() {
				for deep := 1; deep <= 12; deep++ {
					for _, end := range []api.Expr{num(0), num(1), reg("t")} {
						e := chain(deep, op, way, end)
						if deep <= api.MaxDeep {
							plain(n).want(t, e, plain(n).model().value(e))
						} else {
							plain(n).wantNo(t, e)
						}
					}
				}
			}
		}
	}
	for deep := 1; deep <= 9; deep++ { // a sum of ones tells that it is gone through to its end
		if deep <= api.MaxDeep {
			plain(4).want(t, chain(deep, api.Plus, "ab", num(1)), deep%4)
		} else {
			plain(4).wantNo(t, chain(deep, api.Plus, "ab", num(1)))
		}
	}
}

// As deep as may be on all sides; one more on one of them is too deep.
func TestHowDeepOnEachSide(t *testing.T) {
	for _, op := range pairOps() {
		for _, end := range []api.Expr{num(1), reg("t")} {
			for n := 2; n <= api.MaxVals; n++ {
				e := full(api.MaxDeep, op, end)
				plain(n).want(t, e, plain(n).model().value(e))
				plain(n).wantNo(t, full(api.MaxDeep+1, op, end))
			}
			for i, in := range exprsIn(new(full(api.MaxDeep, op, end))) {
				if len(in.Kids) > 0 {
					continue
				}
				e := full(api.MaxDeep, op, end)
				*exprsIn(&e)[i] = plus(num(1), num(1))
				plain(4).wantNo(t, e)
				*exprsIn(&e)[i] = num(2)
				plain(4).want(t, e, plain(4).model().value(e))
			}
		}
	}
}

// However deep, it is gone in no further than MaxDeep; however wide, it has not just two Kids.
func TestVeryDeepAndVeryWide(t *testing.T) {
	for _, op := range pairOps() {
		for _, way := range []string{"a", "b", "ab"} {
			e := chain(1<<16-10, op, way, num(1))
			plain(4).wantNo(t, e)
			plain(4).wantNo(t, less(num(1), e))
			e.Op = api.Num
			plain(4).want(t, minus(e, num(1)), 3)
			e.Op, e.Name = api.Reg, "t"
			plain(4).want(t, minus(e, num(1)), 2)
		}
		plain(4).wantNo(t, full(16, op, num(1)))
		plain(4).wantNo(t, with(op, some(1<<16, num)...))
		plain(4).wantNo(t, plus(num(1), with(op, some(1<<16, num)...)))
	}
}
