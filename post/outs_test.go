package post_test

import (
	"math"
	"slices"
	"testing"

	"withe/api"
	"withe/post"
)

// wantRising asks that each one of l be the same as itself alone, and less than all behind it alone.
func wantRising(t *testing.T, l ...api.Out) {
	t.Helper()
	for i, a := range l {
		for j, b := range l {
			if post.Same(a, b) != (i == j) {
				t.Errorf("Same(%v, %v) = %t", a, b, i != j)
			}
			if post.Less(a, b) != (i < j) {
				t.Errorf("Less(%v, %v) = %t", a, b, i >= j)
			}
		}
	}
}

// wantSame asks that all of l be the same.
func wantSame(t *testing.T, l ...api.Out) {
	t.Helper()
	for _, a := range l {
		for _, b := range l {
			if !post.Same(a, b) || post.Less(a, b) {
				t.Errorf("%v and %v: same %t, less %t", a, b, post.Same(a, b), post.Less(a, b))
			}
		}
	}
}

func TestUnlikeInOneThing(t *testing.T) {
	wantRising(t, out([]int{0}), out([]int{1}), out([]int{2}))
	wantRising(t, out(nil, 0), out(nil, 1), out(nil, 2))
	wantRising(t, out([]int{1, 0, 2}, 1, 1), out([]int{1, 1, 2}, 1, 1), out([]int{1, 2, 2}, 1, 1))
	wantRising(t, out([]int{1, 1}, 1, 0, 2), out([]int{1, 1}, 1, 1, 2), out([]int{1, 1}, 1, 2, 2))
	wantRising(t, outs([]int{1}, []int{1, 0}, []int{1}), outs([]int{1}, []int{1, 1}, []int{1}))
	base := api.Out{Regs: [][]int{{5, 5}, {}, {5, 5, 5}}, Mem: []int{5, 5, 5}}
	wantSame(t, base, base)
	lists := func(o api.Out) [][]int { return append(slices.Clone(o.Regs), o.Mem) }
	for i, l := range lists(base) {
		for k := range l { // each register, each location
			var rising []api.Out
			for _, v := range []int{math.MinInt, -6, -5, -1, 0, 1, 4, 5, 6, math.MaxInt} {
				o := api.Out{Regs: [][]int{{5, 5}, {}, {5, 5, 5}}, Mem: []int{5, 5, 5}}
				lists(o)[i][k] = v
				rising = append(rising, o)
			}
			wantRising(t, rising...)
		}
	}
}

func TestUnlikeInHowMany(t *testing.T) {
	wantRising(t, out(nil), out([]int{0}), out([]int{0, 0}), out([]int{0, 0, 0}))
	wantRising(t, out(nil), out([]int{-7}), out([]int{-7, -7}))
	wantRising(t, outs(), outs(nil), outs(nil, nil), outs(nil, nil, nil), outs(nil, nil, nil, nil))
	wantRising(t, outs(), outs([]int{1}), outs([]int{1}, []int{1}), outs([]int{1}, []int{1}, []int{1}))
	wantRising(t, out(nil), out(nil, 0), out(nil, 0, 0), out(nil, 0, 0, 0))
	wantRising(t, api.Out{}, api.Out{Mem: []int{-1}}, api.Out{Mem: []int{-1, math.MinInt}})
	wantRising(t, out([]int{1}, 2), out([]int{1}, 2, 0), out([]int{1, 0}, 2), out([]int{1, 0}, 2, 0))
	wantRising(t, outs([]int{3}, nil, []int{1}), outs([]int{3}, []int{0}, []int{1}), outs([]int{3}, []int{0, 0}, []int{1}))
}

// Of two things that are unlike the first one decides.
func TestTheFirstThingDecides(t *testing.T) {
	wantRising(t, out([]int{0, 1}), out([]int{1, 0}))                                                         // registers of one thread
	wantRising(t, out(nil, 0, 1), out(nil, 1, 0))                                                             // locations
	wantRising(t, outs([]int{0}, []int{1}), outs([]int{1}, []int{0}))                                         // threads
	wantRising(t, out([]int{0}, 1), out([]int{1}, 0))                                                         // a register, then a location
	wantRising(t, outs([]int{0, 9}, []int{9}), outs([]int{1}, []int{0}))                                      // a lesser number, then a list that ends later
	wantRising(t, out([]int{0, 0}, 0), out([]int{1}, 0))                                                      // likewise in one thread
	wantRising(t, out(nil, 0, 0), out(nil, 1))                                                                // likewise among locations
	wantRising(t, outs([]int{0}, []int{9}), outs([]int{0, 0}, []int{0}))                                      // a list that ends earlier, then a greater number
	wantRising(t, outs([]int{0}, nil, nil), outs([]int{0, 0}))                                                // a list that ends earlier, then more threads
	wantRising(t, outs([]int{0}, []int{0}), outs([]int{1}))                                                   // a lesser number, then more threads
	wantRising(t, api.Out{Mem: []int{9}}, api.Out{Regs: [][]int{{}}, Mem: []int{0}})                          // fewer threads, then a greater number
	wantRising(t, api.Out{Regs: [][]int{{1}}, Mem: []int{9, 9}}, api.Out{Regs: [][]int{{1}, {}}})             // fewer threads, then more locations
	wantRising(t, out([]int{1}, 9, 9), out([]int{1, -9}))                                                     // a list that ends earlier, then more locations
	wantRising(t, api.Out{Regs: [][]int{{}, {9}}, Mem: []int{9}}, api.Out{Regs: [][]int{{0}}, Mem: []int{0}}) // an empty list, then all else
	wantRising(t, out([]int{-2}), out([]int{-1}), out([]int{0}))
	wantRising(t, out([]int{-10}), out([]int{-9}), out([]int{9}), out([]int{10})) // numbers, not texts
	wantRising(t, out(nil, math.MinInt), out(nil, -1), out(nil, 0), out(nil, math.MaxInt))
	wantRising(t, out([]int{math.MinInt}, 1), out([]int{math.MaxInt}, 0))
}

func TestNilAndEmptyAreOne(t *testing.T) {
	wantSame(t, api.Out{}, api.Out{Regs: [][]int{}}, api.Out{Mem: []int{}}, api.Out{Regs: [][]int{}, Mem: []int{}})
	wantSame(t, outs(nil), outs([]int{}), api.Out{Regs: [][]int{{}}, Mem: []int{}})
	wantSame(t, outs(nil, []int{1}, nil), outs([]int{}, []int{1}, nil), outs(nil, []int{1}, []int{}))
	wantRising(t, api.Out{Regs: [][]int{}}, outs([]int{}), outs([]int{}, nil))
	wantRising(t, api.Out{Mem: []int{}}, api.Out{Mem: []int{0}})
}

// Spare room is no thing that could be unlike.
func TestSpareRoomOfOuts(t *testing.T) {
	a, b := []int{1, 2, 3}, []int{1, 5, 6}
	wantSame(t, out(a[:1], a[:1]...), out(b[:1], b[:1]...), out(a[:1], 1))
	wantSame(t, outs([][]int{{1}, {2}}[:1]...), outs([][]int{{1}, {3}}[:1]...), outs([]int{1}))
	wantRising(t, out(b[:1]), out(a[:2]), out(b[:2]))
}

func TestLine(t *testing.T) {
	for _, c := range []struct {
		locs []string
		regs [][]string
		out  api.Out
		want string
	}{
		{[]string{"x"}, [][]string{{"r"}}, out([]int{1}, 0), "0:r=1 x=0"},
		{nil, nil, api.Out{}, ""},
		{[]string{}, [][]string{}, api.Out{Regs: [][]int{}, Mem: []int{}}, ""},
		{nil, [][]string{nil, {}}, outs(nil, []int{}), ""},
		{[]string{"x"}, nil, out(nil, 3), "x=3"},
		{[]string{"x", "y", "z"}, nil, api.Out{Mem: []int{3, 0, 1}}, "x=3 y=0 z=1"},
		{nil, [][]string{{"r"}}, outs([]int{3}), "0:r=3"},
		{nil, [][]string{{"r", "s", "t"}}, outs([]int{3, 0, 1}), "0:r=3 0:s=0 0:t=1"},
		{nil, [][]string{{"r"}, {"r"}, {"s"}}, outs([]int{1}, []int{2}, []int{3}), "0:r=1 1:r=2 2:s=3"},
		{[]string{"x", "y"}, [][]string{{"r", "s"}, {"a", "b"}}, api.Out{Regs: [][]int{{1, 2}, {3, 0}}, Mem: []int{1, 2}}, "0:r=1 0:s=2 1:a=3 1:b=0 x=1 y=2"},
		{[]string{"x"}, [][]string{{}, {"r"}, {}, {"s"}}, api.Out{Regs: [][]int{{}, {1}, {}, {2}}, Mem: []int{0}}, "1:r=1 3:s=2 x=0"},
		{[]string{"x"}, [][]string{{}, {}}, api.Out{Regs: [][]int{{}, {}}, Mem: []int{0}}, "x=0"},
		{[]string{"y", "x"}, [][]string{{"s", "r"}}, out([]int{2, 1}, 2, 1), "0:s=2 0:r=1 y=2 x=1"},                                             // as they stand, not by name
		{[]string{"x", "x"}, [][]string{{"r", "r"}, {"r"}}, api.Out{Regs: [][]int{{1, 1}, {1}}, Mem: []int{1, 2}}, "0:r=1 0:r=1 1:r=1 x=1 x=2"}, // each, if there twice too
		{[]string{"x"}, [][]string{{"r"}}, out([]int{-1}, -20), "0:r=-1 x=-20"},
		{[]string{"x", "y"}, [][]string{{"r"}}, out([]int{10}, 255, 1234567), "0:r=10 x=255 y=1234567"},
		{[]string{"x"}, [][]string{{"r"}}, out([]int{math.MinInt}, math.MaxInt), "0:r=-9223372036854775808 x=9223372036854775807"},
		{[]string{"a b", "\xff"}, [][]string{{"r=1", ":"}}, out([]int{0, 1}, 2, 3), "0:r=1=0 0::=1 a b=2 \xff=3"}, // names are texts
	} {
		place{c.locs, c.regs, c.out}.wantLine(t, c.want)
	}
}

// What has a name without a value, or a value without a name, is left out, and the rest stands.
func TestLineOfListsThatAreUnlike(t *testing.T) {
	regs, locs := [][]string{{"r", "s"}, {"t", "u"}}, []string{"x", "y"}
	for _, c := range []struct {
		out  api.Out
		want string
	}{
		{api.Out{}, ""},
		{api.Out{Mem: []int{1}}, "x=1"},
		{api.Out{Mem: []int{1, 2, 3}}, "x=1 y=2"},
		{outs([]int{1}), "0:r=1"},
		{outs([]int{1, 2, 3}), "0:r=1 0:s=2"},
		{outs([]int{1}, []int{2}), "0:r=1 1:t=2"},
		{outs(nil, []int{2}), "1:t=2"},
		{outs([]int{1, 2, 3}, []int{4, 5, 6}, []int{7}), "0:r=1 0:s=2 1:t=4 1:u=5"},
		{outs([]int{1}, nil, []int{7, 8}, nil), "0:r=1"},
		{api.Out{Regs: [][]int{{1, 2, 3}, {4}}, Mem: []int{5, 6, 7}}, "0:r=1 0:s=2 1:t=4 x=5 y=6"},
		{api.Out{Regs: [][]int{nil, nil, {9}}, Mem: []int{5}}, "x=5"},
	} {
		place{locs, regs, c.out}.wantLine(t, c.want)
	}
	o := api.Out{Regs: [][]int{{1, 2}, {3, 4}}, Mem: []int{5, 6}}
	for _, c := range []struct {
		locs []string
		regs [][]string
		want string
	}{
		{nil, nil, ""},
		{locs[:1], nil, "x=5"},
		{nil, regs[:1], "0:r=1 0:s=2"},
		{nil, [][]string{nil, {"t"}}, "1:t=3"},
		{locs, [][]string{{"r"}, nil}, "0:r=1 x=5 y=6"},
		{[]string{"x", "y", "z"}, [][]string{{"r", "s", "q"}, {"t", "u", "v"}, {"w"}}, "0:r=1 0:s=2 1:t=3 1:u=4 x=5 y=6"},
	} {
		place{c.locs, c.regs, o}.wantLine(t, c.want)
	}
}

// A thread's number may have several digits.
func TestLineOfManyThreads(t *testing.T) {
	p := place{regs: some(1002, func(int) []string { return nil }), out: outs(some(1002, func(i int) []int { return []int{i} })...)}
	for _, i := range []int{0, 9, 10, 99, 100, 1001} {
		p.regs[i] = []string{"r"}
	}
	p.wantLine(t, "0:r=0 9:r=9 10:r=10 99:r=99 100:r=100 1001:r=1001")
}
