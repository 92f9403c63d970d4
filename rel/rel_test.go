package rel

import (
	"math"
	"slices"
	"testing"
)

// holds tells whether y is in the row, worked out by division, so that it leans on nothing of what is tested.
func holds(row uint64, y int) bool {
	if y < 0 || y > 63 {
		return false
	}
	for range y {
		row /= 2
	}
	return row%2 == 1
}

// made is the relation over n things that has x before y just if the rule says so.
func made(n int, rule func(x, y int) bool) []uint64 {
	r := make([]uint64, n)
	for x := range n {
		worth := uint64(1)
		for y := range n {
			if rule(x, y) {
				r[x] += worth
			}
			worth *= 2
		}
	}
	return r
}

// mixed is a source of numbers by a fixed rule.
type mixed uint64

func (m *mixed) next() uint64 {
	*m = *m*6364136223846793005 + 1442695040888963407
	return uint64(*m) >> 33
}

// some is relations over n things: the edges, and some that are mixed, sparse and dense.
func some(n int) [][]uint64 {
	l := [][]uint64{
		made(n, func(x, y int) bool { return false }),
		made(n, func(x, y int) bool { return true }),
		made(n, func(x, y int) bool { return x == y }),
		made(n, func(x, y int) bool { return x < y }),
		made(n, func(x, y int) bool { return y == x+1 }),
		made(n, func(x, y int) bool { return x == 0 }),
		made(n, func(x, y int) bool { return y == n-1 }),
	}
	m := mixed(n + 1)
	for _, one := range []uint64{2, 3, 8, 40} {
		l = append(l, made(n, func(x, y int) bool { return m.next()%one == 0 }))
	}
	return l
}

// sizes is the counts of things that calls are tried with: both edges, those beside them, and some between.
func sizes() []int {
	return []int{0, 1, 2, 3, 5, 31, 32, 33, 63, 64}
}

// broken is what may not be a relation: too many rows, or a row with a number from their count on.
func broken() [][]uint64 {
	last := make([]uint64, 63)
	last[0] = 1 << 63
	behind := make([]uint64, 63)
	behind[62] = 1 << 63
	long := make([]uint64, 65)
	long[0] = 1
	return [][]uint64{
		{2},
		{math.MaxUint64},
		{0, 4},
		{8, 0, 0},
		{0, 8, 0},
		{2, 4, 8},
		{2, 4, 1 << 63},
		last,
		behind,
		make([]uint64, 65),
		long,
		make([]uint64, 128),
		make([]uint64, 1<<16),
	}
}

// tried is numbers that calls are tried with: all that may be things, those beside both ends, and ones whose low bits alone would look like things.
func tried() []int {
	l := []int{math.MinInt, -1 << 32, -65, -64, -63, -2, -1}
	for i := range 66 {
		l = append(l, i)
	}
	return append(l, 127, 128, 256, 1<<32, 1<<32+1, math.MaxInt)
}

// subsets is sets that calls are tried with: they have numbers that are things, and others.
func subsets() []uint64 {
	l := []uint64{0, 1, 2, 5, 1<<40 | 5, 1 << 50, 1 << 63, 1<<63 | 1, 1<<32 - 1, math.MaxUint64 - 1, math.MaxUint64, 0x5555555555555555, 0xaaaaaaaaaaaaaaaa}
	m := mixed(7)
	for range 5 {
		l = append(l, m.next()<<33^m.next())
	}
	return l
}

func TestMay(t *testing.T) {
	for _, n := range sizes() {
		for _, r := range some(n) {
			if !May(r) {
				t.Errorf("May(%x) = false", r)
			}
		}
	}
	for _, r := range broken() {
		if May(r) {
			t.Errorf("May of %d rows = true: %x", len(r), r[:1])
		}
	}
	if !May(nil) || !May([]uint64{}) {
		t.Error("May of no rows = false")
	}
}

func TestMayOfEachRowAndNumber(t *testing.T) {
	for _, n := range []int{1, 2, 5, 63, 64} {
		for x := range n {
			for y := range 64 {
				r := make([]uint64, n)
				r[x] = 1 << y
				if got := May(r); got != (y < n) {
					t.Errorf("May of %d before %d, over %d things = %v", x, y, n, got)
				}
			}
		}
	}
}

func TestNew(t *testing.T) {
	for n := range 65 {
		r := New(n)
		if len(r) != n || !May(r) || Count(r) != 0 {
			t.Errorf("New(%d) = %x", n, r)
		}
	}
	for _, n := range []int{math.MinInt, -64, -1, 65, 66, 128, 1 << 32, math.MaxInt} {
		if r := New(n); len(r) != 0 {
			t.Errorf("New(%d) has %d rows", n, len(r))
		}
	}
	a, b := New(3), New(3)
	a[0] = 7
	if b[0] != 0 || New(3)[0] != 0 {
		t.Error("New shares memory")
	}
}

func TestFrom(t *testing.T) {
	rows := []struct {
		name string
		n    int
		l    [][2]int
		want []uint64
	}{
		{"the chapter's example", 3, [][2]int{{0, 1}, {1, 2}}, []uint64{2, 4, 0}},
		{"in any order, some twice", 3, [][2]int{{1, 2}, {0, 1}, {1, 2}, {0, 1}}, []uint64{2, 4, 0}},
		{"both ways, and itself", 2, [][2]int{{0, 1}, {1, 0}, {1, 1}}, []uint64{2, 3}},
		{"no pairs", 2, nil, []uint64{0, 0}},
		{"nothing", 0, nil, nil},
		{"nothing, of an empty list", 0, [][2]int{}, nil},
		{"one thing", 1, [][2]int{{0, 0}}, []uint64{1}},
	}
	for _, r := range rows {
		if got, ok := From(r.n, r.l); !ok || !slices.Equal(got, r.want) {
			t.Errorf("%s: From(%d, %v) = %x, %v, want %x", r.name, r.n, r.l, got, ok, r.want)
		}
	}
	got, ok := From(64, [][2]int{{63, 63}, {0, 63}, {63, 0}})
	if !ok || len(got) != 64 || got[0] != 1<<63 || got[63] != 1<<63|1 || Count(got) != 3 {
		t.Errorf("From over 64 things: %x, %v", got, ok)
	}
}

func TestFromOfWrongCounts(t *testing.T) {
	for _, n := range []int{math.MinInt, -64, -1, 65, 128, 1 << 32, math.MaxInt} {
		for _, l := range [][][2]int{nil, {{0, 0}}, {{0, 1}, {64, 64}}} {
			if r, ok := From(n, l); ok || r != nil {
				t.Errorf("From(%d, %v) = %x, %v", n, l, r, ok)
			}
		}
	}
}

func TestFromOfWhatIsNoThing(t *testing.T) {
	for _, n := range sizes() {
		for _, i := range tried() {
			thing := i >= 0 && i < n
			if _, ok := From(n, [][2]int{{i, i}}); ok != thing {
				t.Errorf("From(%d, (%d, %d)): %v", n, i, i, ok)
			}
			if n == 0 {
				continue
			}
			for _, l := range [][][2]int{{{i, 0}}, {{0, i}}, {{0, 0}, {i, n - 1}}, {{n - 1, i}, {0, 0}}} {
				if r, ok := From(n, l); ok != thing || !ok && r != nil {
					t.Errorf("From(%d, %v) = %x, %v", n, l, r, ok)
				}
			}
		}
	}
}

func TestFromLeavesItsListAlone(t *testing.T) {
	room := [][2]int{{1, 2}, {0, 1}, {1, 2}, {9, 9}, {8, 8}}
	before := slices.Clone(room)
	From(3, room[:3])
	From(1, room[:3])
	if !slices.Equal(room, before) {
		t.Errorf("From changed its list: %v, was %v", room, before)
	}
}

func TestPairs(t *testing.T) {
	if got := Pairs([]uint64{6, 0, 5}); !slices.Equal(got, [][2]int{{0, 1}, {0, 2}, {2, 0}, {2, 2}}) {
		t.Errorf("Pairs = %v", got)
	}
	for _, n := range sizes() {
		for _, r := range some(n) {
			var want [][2]int
			for x := range n {
				for y := range n {
					if holds(r[x], y) {
						want = append(want, [2]int{x, y})
					}
				}
			}
			if got := Pairs(r); !slices.Equal(got, want) {
				t.Errorf("Pairs(%x) = %v, want %v", r, got, want)
			}
			if back, ok := From(n, Pairs(r)); !ok || !Same(back, r) {
				t.Errorf("From Pairs of %x: %x, %v", r, back, ok)
			}
		}
	}
	for _, r := range broken() {
		if got := Pairs(r); len(got) != 0 {
			t.Errorf("Pairs of %d rows that may not be: %v", len(r), got)
		}
	}
}

func TestHas(t *testing.T) {
	for _, n := range sizes() {
		for _, r := range some(n) {
			for _, a := range tried() {
				for _, b := range tried() {
					want := a >= 0 && a < n && holds(r[a], b)
					if got := Has(r, a, b); got != want {
						t.Errorf("Has(%x, %d, %d) = %v", r, a, b, got)
					}
				}
			}
		}
	}
	for _, r := range broken() {
		for _, a := range tried() {
			if Has(r, a, 0) || Has(r, 0, a) || Has(r, a, a) {
				t.Errorf("Has of %d rows that may not be, with %d", len(r), a)
			}
		}
	}
	// What is right in one row does not help what may not be in another.
	if Has([]uint64{2, 4}, 0, 1) || Has([]uint64{2, 0, 8}, 0, 1) {
		t.Error("Has of one that may not be, of a pair of things")
	}
}

func TestCount(t *testing.T) {
	if Count(nil) != 0 || Count([]uint64{6, 0, 5}) != 4 || Count(made(64, func(x, y int) bool { return true })) != 4096 {
		t.Error("Count of ordinary relations")
	}
	for _, n := range sizes() {
		for _, r := range some(n) {
			if got := Count(r); got != len(Pairs(r)) {
				t.Errorf("Count(%x) = %d, want %d", r, got, len(Pairs(r)))
			}
		}
	}
	for _, r := range broken() {
		if got := Count(r); got != 0 {
			t.Errorf("Count of %d rows that may not be: %d", len(r), got)
		}
	}
}

func TestSame(t *testing.T) {
	rows := []struct {
		name string
		a, b []uint64
		want bool
	}{
		{"nil and empty", nil, []uint64{}, true},
		{"alike", []uint64{2, 4, 0}, []uint64{2, 4, 0}, true},
		{"unlike in the first row", []uint64{2, 4, 0}, []uint64{3, 4, 0}, false},
		{"unlike in the last row", []uint64{2, 4, 0}, []uint64{2, 4, 1}, false},
		{"a row less", []uint64{2, 4, 0}, []uint64{2, 4}, false},
		{"a row more", []uint64{2, 3}, []uint64{2, 3, 0}, false},
		{"none and an empty row", nil, []uint64{0}, false},
		{"alike, that may not be", []uint64{8}, []uint64{8}, true},
		{"unlike, that may not be", []uint64{8}, []uint64{16}, false},
		{"one that may be, one that may not", []uint64{0, 0}, []uint64{0, 4}, false},
		{"alike, of 65 rows", make([]uint64, 65), make([]uint64, 65), true},
		{"of 64 rows and of 65", make([]uint64, 64), make([]uint64, 65), false},
	}
	for _, r := range rows {
		if Same(r.a, r.b) != r.want || Same(r.b, r.a) != r.want {
			t.Errorf("%s: Same = %v", r.name, !r.want)
		}
	}
	a, b := make([]uint64, 70), make([]uint64, 70)
	a[69] = 1
	if Same(a, b) {
		t.Error("Same of 70 rows, unlike in the last one")
	}
}

func TestExamplesOfThen(t *testing.T) {
	a, b := []uint64{2, 4, 0}, []uint64{6, 0, 1}
	if got := Then(a, a); !Same(got, []uint64{4, 0, 0}) {
		t.Errorf("the chapter's example: %x", got)
	}
	if got := Then(a, b); !Same(got, []uint64{0, 1, 0}) {
		t.Errorf("Then(a, b) = %x", got)
	}
	if got := Then(b, a); !Same(got, []uint64{4, 0, 2}) {
		t.Errorf("Then(b, a) = %x", got)
	}
}

// meets tells whether some y is behind x by a, and ahead of z by b.
func meets(a, b []uint64, x, z int) bool {
	for y := range a {
		if holds(a[x], y) && holds(b[y], z) {
			return true
		}
	}
	return false
}

func TestOfTwo(t *testing.T) {
	for _, n := range sizes() {
		for _, a := range some(n) {
			for _, b := range some(n) {
				either := made(n, func(x, y int) bool { return holds(a[x], y) || holds(b[x], y) })
				common := made(n, func(x, y int) bool { return holds(a[x], y) && holds(b[x], y) })
				rest := made(n, func(x, y int) bool { return holds(a[x], y) && !holds(b[x], y) })
				if got := Or(a, b); !slices.Equal(got, either) {
					t.Errorf("Or(%x, %x) = %x", a, b, got)
				}
				if got := And(a, b); !slices.Equal(got, common) {
					t.Errorf("And(%x, %x) = %x", a, b, got)
				}
				if got := Less(a, b); !slices.Equal(got, rest) {
					t.Errorf("Less(%x, %x) = %x", a, b, got)
				}
			}
		}
	}
}

func TestThen(t *testing.T) {
	for _, n := range []int{0, 1, 2, 3, 7, 33, 64} {
		l := some(n)
		for i, a := range l {
			for _, b := range [][]uint64{l[i], l[len(l)-1-i], l[3], l[7]} {
				want := made(n, func(x, z int) bool { return meets(a, b, x, z) })
				if got := Then(a, b); !slices.Equal(got, want) {
					t.Errorf("Then(%x, %x) = %x, want %x", a, b, got, want)
				}
			}
		}
	}
}

func TestBack(t *testing.T) {
	if got := Back([]uint64{6, 0, 1}); !slices.Equal(got, []uint64{4, 1, 1}) {
		t.Errorf("Back = %x", got)
	}
	for _, n := range sizes() {
		for _, a := range some(n) {
			want := made(n, func(x, y int) bool { return holds(a[y], x) })
			if got := Back(a); !slices.Equal(got, want) {
				t.Errorf("Back(%x) = %x, want %x", a, got, want)
			}
		}
	}
}

func TestKeep(t *testing.T) {
	if got := Keep([]uint64{7, 7, 7}, 1<<40|5); !slices.Equal(got, []uint64{5, 0, 5}) {
		t.Errorf("Keep = %x", got)
	}
	for _, n := range sizes() {
		for _, a := range some(n) {
			for _, s := range subsets() {
				want := made(n, func(x, y int) bool { return holds(a[x], y) && holds(s, x) && holds(s, y) })
				if got := Keep(a, s); !slices.Equal(got, want) {
					t.Errorf("Keep(%x, %x) = %x, want %x", a, s, got, want)
				}
			}
		}
	}
}

func TestInto(t *testing.T) {
	b := []uint64{6, 0, 1}
	if Into(b, 5) != 7 || Into(b, 1) != 6 || Into(b, 4) != 1 || Into(b, 2) != 0 || Into(b, 0) != 0 || Into(nil, math.MaxUint64) != 0 {
		t.Error("Into of ordinary relations")
	}
	for _, n := range sizes() {
		for _, a := range some(n) {
			for _, s := range subsets() {
				var want uint64
				for x := range n {
					if holds(s, x) {
						want |= a[x]
					}
				}
				if got := Into(a, s); got != want {
					t.Errorf("Into(%x, %x) = %x, want %x", a, s, got, want)
				}
			}
		}
	}
}

// calls is all that makes a relation of two.
func calls() map[string]func(a, b []uint64) []uint64 {
	return map[string]func(a, b []uint64) []uint64{"Or": Or, "And": And, "Less": Less, "Then": Then}
}

func TestOfTwoThatMayNotBe(t *testing.T) {
	for name, call := range calls() {
		for _, bad := range broken() {
			if got := call(bad, bad); len(got) != 0 {
				t.Errorf("%s of %d rows that may not be, twice: %x", name, len(bad), got)
			}
			good := made(min(len(bad), 64), func(x, y int) bool { return true })
			if got := call(bad, good); len(got) != 0 {
				t.Errorf("%s of %d rows that may not be, and %d: %x", name, len(bad), len(good), got)
			}
			if got := call(good, bad); len(got) != 0 {
				t.Errorf("%s of %d rows, and %d that may not be: %x", name, len(good), len(bad), got)
			}
		}
	}
}

func TestOfUnlikeCounts(t *testing.T) {
	full := func(x, y int) bool { return true }
	for name, call := range calls() {
		for _, n := range sizes() {
			for _, m := range sizes() {
				got := call(made(n, full), made(m, full))
				if n != m && len(got) != 0 || n == m && len(got) != n {
					t.Errorf("%s over %d and %d things: %d rows", name, n, m, len(got))
				}
			}
		}
		if got := call(nil, []uint64{}); len(got) != 0 {
			t.Errorf("%s over nothing: %x", name, got)
		}
	}
}

func TestOfOneThatMayNotBe(t *testing.T) {
	for _, bad := range broken() {
		if got := Back(bad); len(got) != 0 {
			t.Errorf("Back of %d rows that may not be: %x", len(bad), got)
		}
		for _, s := range subsets() {
			if got := Keep(bad, s); len(got) != 0 {
				t.Errorf("Keep of %d rows that may not be: %x", len(bad), got)
			}
			if got := Into(bad, s); got != 0 {
				t.Errorf("Into of %d rows that may not be: %x", len(bad), got)
			}
		}
	}
}

func TestThenInWhateverBrackets(t *testing.T) {
	for _, n := range []int{0, 1, 3, 33, 64} {
		for _, a := range some(n) {
			for _, b := range some(n) {
				for _, c := range some(n)[3:9] {
					if !Same(Then(Then(a, b), c), Then(a, Then(b, c))) {
						t.Errorf("Then of %x, %x, %x", a, b, c)
					}
				}
			}
		}
	}
}

func TestLaws(t *testing.T) {
	for _, n := range sizes() {
		for _, a := range some(n) {
			if !Same(Back(Back(a)), a) {
				t.Errorf("Back of Back of %x", a)
			}
			for _, b := range some(n) {
				if !Same(Back(Then(a, b)), Then(Back(b), Back(a))) {
					t.Errorf("Back of Then of %x, %x", a, b)
				}
				if !Same(Or(And(a, b), Less(a, b)), a) || !Same(Less(a, Less(a, b)), And(a, b)) || !Same(Or(a, b), Or(b, a)) {
					t.Errorf("Or, And, Less of %x, %x", a, b)
				}
				if Count(Or(a, b))+Count(And(a, b)) != Count(a)+Count(b) {
					t.Errorf("Count of Or and And of %x, %x", a, b)
				}
			}
		}
	}
}

// TestLeaveAlone hands all calls rows with spare room behind them, and writes over what they answer.
func TestLeaveAlone(t *testing.T) {
	roomA, roomB := []uint64{2, 4, 0, 77, 78}, []uint64{6, 0, 1, 79, 80}
	a, b := roomA[:3], roomB[:3]
	answers := [][]uint64{Or(a, b), Or(a, a), And(a, b), And(a, a), Less(a, b), Less(a, New(3)), Then(a, b), Then(a, a), Back(a), Keep(a, math.MaxUint64), Keep(a, 1)}
	May(a)
	Pairs(a)
	Has(a, 0, 1)
	Into(a, 3)
	Count(a)
	Same(a, b)
	for _, r := range answers {
		for i := range r {
			r[i] = 55
		}
		_ = append(r, 66)
	}
	if !slices.Equal(roomA, []uint64{2, 4, 0, 77, 78}) || !slices.Equal(roomB, []uint64{6, 0, 1, 79, 80}) {
		t.Errorf("what was handed in has changed: %v, %v", roomA, roomB)
	}
}
