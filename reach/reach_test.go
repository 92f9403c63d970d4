package reach

import (
	"math"
	"slices"
	"testing"

	"withe/rel"
)

// holds tells whether y is in the row, worked out by division, so that it leans on nothing of what is tested.
func holds(row uint64, y int) bool {
	for range y {
		row /= 2
	}
	return row%2 == 1
}

// made is the relation over n things that has x before y just if the rule says so.
func made(n int, rule func(x, y int) bool) []uint64 {
	r := make([]uint64, n)
	for x := range n {
		worth := uint64(1)
		for y := range n {
			if rule(x, y) {
				r[x] += worth
			}
			worth *= 2
		}
	}
	return r
}

// set is the things below n that the rule takes.
func set(n int, rule func(x int) bool) uint64 {
	var s, worth uint64 = 0, 1
	for x := range n {
		if rule(x) {
			s += worth
		}
		worth *= 2
	}
	return s
}

// mixed is a source of numbers by a fixed rule.
type mixed uint64

func (m *mixed) next() uint64 {
	*m = *m*6364136223846793005 + 1442695040888963407
	return uint64(*m) >> 33
}

// shuffled is the numbers below n in a mixed order.
func shuffled(n int, m *mixed) []int {
	l := make([]int, n)
	for i := range l {
		j := int(m.next() % uint64(i+1))
		l[i], l[j] = l[j], i
	}
	return l
}

// some is relations over n things: the edges, some with ways round, and some without, whose things lie in a mixed order.
func some(n int) [][]uint64 {
	l := [][]uint64{
		made(n, func(x, y int) bool { return false }),
		made(n, func(x, y int) bool { return true }),
		made(n, func(x, y int) bool { return x == y }),
		made(n, func(x, y int) bool { return x < y }),
		made(n, func(x, y int) bool { return x > y }),
		made(n, func(x, y int) bool { return y == x+1 }),
		made(n, func(x, y int) bool { return x == y+1 }),
		made(n, func(x, y int) bool { return y == (x+1)%n }),
		made(n, func(x, y int) bool { return x == (y+1)%n }),
		made(n, func(x, y int) bool { return x == n-1 && y == n-1 }),
		made(n, func(x, y int) bool { return x == n/2 && y != x }),
		made(n, func(x, y int) bool { return y == n/2 && y != x }),
	}
	m := mixed(n + 1)
	for _, one := range []uint64{2, 8, uint64(n) + 1, 2*uint64(n) + 1} {
		l = append(l, made(n, func(x, y int) bool { return m.next()%one == 0 }))
	}
	for _, one := range []uint64{1, 2, 5, uint64(n)/2 + 1} {
		at := shuffled(n, &m)
		l = append(l, made(n, func(x, y int) bool { return at[x] < at[y] && m.next()%one == 0 }))
	}
	at := shuffled(n, &m)
	return append(l, made(n, func(x, y int) bool { return at[x]+1 == at[y] }))
}

// sizes is the counts of things that calls are tried with: both edges, those beside them, and some between.
func sizes() []int {
	return []int{0, 1, 2, 3, 4, 5, 9, 32, 33, 63, 64}
}

// small is all relations over n things.
func small(n int) [][]uint64 {
	var l [][]uint64
	for bits := range 1 << (n * n) {
		l = append(l, made(n, func(x, y int) bool { return bits>>(x*n+y)%2 == 1 }))
	}
	return l
}

// tried is all relations of at most three things, and some of more.
func tried() [][]uint64 {
	var l [][]uint64
	for n := range 4 {
		l = append(l, small(n)...)
	}
	for _, n := range sizes() {
		l = append(l, some(n)...)
	}
	return l
}

// broken is what may not be a relation: too many rows, or a row with a number from their count on.
func broken() [][]uint64 {
	last := make([]uint64, 63)
	last[62] = 1 << 63
	order := make([]uint64, 65)
	order[0] = 2
	return [][]uint64{
		{2},
		{4, 0},
		{2, 4},
		{2, 0, 8},
		{6, 4, 1 << 63},
		{math.MaxUint64},
		last,
		make([]uint64, 65),
		order,
		make([]uint64, 128),
		make([]uint64, 1<<16),
	}
}

// subsets is sets that calls are tried with: they have numbers that are things, and others.
func subsets() []uint64 {
	l := []uint64{0, 1, 2, 3, 4, 5, 6, 7, 1<<40 | 5, 1 << 50, 1 << 63, 1<<63 | 1, 1<<32 - 1, math.MaxUint64 - 1, math.MaxUint64, 0x5555555555555555}
	m := mixed(7)
	for range 5 {
		l = append(l, m.next()<<33^m.next())
	}
	return l
}

// comes says by [x][y] whether one comes from x to y in one step or more: from each x every step is followed, whatever it leads to.
func comes(r []uint64) [][]bool {
	all := make([][]bool, len(r))
	for x := range r {
		all[x] = make([]bool, len(r))
		todo := []int{x}
		for len(todo) > 0 {
			at := todo[0]
			todo = todo[1:]
			for y := range r {
				if holds(r[at], y) && !all[x][y] {
					all[x][y] = true
					todo = append(todo, y)
				}
			}
		}
	}
	return all
}

// round tells whether something comes to itself.
func round(way [][]bool) bool {
	for x := range way {
		if way[x][x] {
			return true
		}
	}
	return false
}

func TestExamples(t *testing.T) {
	r := []uint64{4, 0, 2}
	if got := Plus(r); !slices.Equal(got, []uint64{6, 0, 2}) {
		t.Errorf("Plus = %x", got)
	}
	if got := Star(r); !slices.Equal(got, []uint64{7, 2, 6}) {
		t.Errorf("Star = %x", got)
	}
	if got, ok := Order(r); !ok || !slices.Equal(got, []int{0, 2, 1}) {
		t.Errorf("Order = %v, %v", got, ok)
	}
	if got, ok := Deep(r); !ok || !slices.Equal(got, []int{0, 2, 1}) {
		t.Errorf("Deep = %v, %v", got, ok)
	}
}

func TestPlusAndStar(t *testing.T) {
	for _, r := range tried() {
		way := comes(r)
		plus := made(len(r), func(x, y int) bool { return way[x][y] })
		star := made(len(r), func(x, y int) bool { return way[x][y] || x == y })
		if got := Plus(r); !slices.Equal(got, plus) {
			t.Errorf("Plus(%x) = %x, want %x", r, got, plus)
		}
		if got := Star(r); !slices.Equal(got, star) {
			t.Errorf("Star(%x) = %x, want %x", r, got, star)
		}
	}
}

func TestAcyclic(t *testing.T) {
	rows := []struct {
		name string
		r    []uint64
		want bool
	}{
		{"nothing", nil, true},
		{"one thing", []uint64{0}, true},
		{"one thing before itself", []uint64{1}, false},
		{"the last thing before itself", []uint64{2, 4, 4}, false},
		{"two before each other", []uint64{2, 1}, false},
		{"a way with a short cut", []uint64{6, 4, 0}, true},
		{"a way round of three, with one behind", []uint64{2, 4, 9, 0}, false},
		{"a way round of three, with one ahead", []uint64{2, 4, 1, 1}, false},
	}
	for _, r := range rows {
		if got := Acyclic(r.r); got != r.want {
			t.Errorf("%s: Acyclic(%x) = %v", r.name, r.r, got)
		}
	}
	for _, r := range tried() {
		if got := Acyclic(r); got == round(comes(r)) {
			t.Errorf("Acyclic(%x) = %v", r, got)
		}
	}
}

// line is what Order must tell: again and again all things are asked in turn whether they could be next.
func line(r []uint64) []int {
	var l []int
	next := func() int {
		for y := range r {
			ready := !slices.Contains(l, y)
			for x := range r {
				ready = ready && (!holds(r[x], y) || slices.Contains(l, x))
			}
			if ready {
				return y
			}
		}
		return -1
	}
	for y := next(); y >= 0; y = next() {
		l = append(l, y)
	}
	return l
}

func TestOrder(t *testing.T) {
	rows := []struct {
		name string
		r    []uint64
		want []int
	}{
		{"nothing", nil, nil},
		{"no pairs", []uint64{0, 0, 0}, []int{0, 1, 2}},
		{"backwards", []uint64{0, 1, 2}, []int{2, 1, 0}},
		{"what comes free late is ahead, if it is less", []uint64{0, 0, 3, 1}, []int{2, 1, 3, 0}},
		{"the least first, not the deep one", []uint64{8, 0, 0, 0}, []int{0, 1, 2, 3}},
		{"free at once, not round by round", []uint64{0, 0, 2, 1}, []int{2, 1, 3, 0}},
	}
	for _, r := range rows {
		if got, ok := Order(r.r); !ok || !slices.Equal(got, r.want) {
			t.Errorf("%s: Order(%x) = %v, %v, want %v", r.name, r.r, got, ok, r.want)
		}
	}
	for _, r := range tried() {
		got, ok := Order(r)
		if round(comes(r)) {
			if ok || got != nil {
				t.Errorf("Order(%x) = %v, %v, of a way round", r, got, ok)
			}
			continue
		}
		if want := line(r); !ok || !slices.Equal(got, want) {
			t.Errorf("Order(%x) = %v, %v, want %v", r, got, ok, want)
		}
	}
}

// longest is how many steps the longest way to y has, worked out backwards from y; known holds what was found already, one more than it is.
func longest(r []uint64, y int, known []int) int {
	if known[y] > 0 {
		return known[y] - 1
	}
	most := 0
	for x := range r {
		if holds(r[x], y) {
			most = max(most, longest(r, x, known)+1)
		}
	}
	known[y] = most + 1
	return most
}

func TestDeep(t *testing.T) {
	rows := []struct {
		name string
		r    []uint64
		want []int
	}{
		{"nothing", nil, nil},
		{"no pairs", []uint64{0, 0, 0}, []int{0, 0, 0}},
		{"the longer of two ways", []uint64{6, 4, 0}, []int{0, 1, 2}},
		{"backwards", []uint64{0, 1, 2}, []int{2, 1, 0}},
		{"ways that meet", []uint64{0, 1, 3, 1}, []int{2, 1, 0, 0}},
	}
	for _, r := range rows {
		if got, ok := Deep(r.r); !ok || !slices.Equal(got, r.want) {
			t.Errorf("%s: Deep(%x) = %v, %v, want %v", r.name, r.r, got, ok, r.want)
		}
	}
	for _, r := range tried() {
		got, ok := Deep(r)
		if round(comes(r)) {
			if ok || got != nil {
				t.Errorf("Deep(%x) = %v, %v, of a way round", r, got, ok)
			}
			continue
		}
		want, known := make([]int, len(r)), make([]int, len(r))
		for y := range r {
			want[y] = longest(r, y, known)
		}
		if !ok || !slices.Equal(got, want) {
			t.Errorf("Deep(%x) = %v, %v, want %v", r, got, ok, want)
		}
	}
}

func TestTotal(t *testing.T) {
	way := []uint64{4, 0, 2}
	rows := []struct {
		name string
		r    []uint64
		s    uint64
		want bool
	}{
		{"nothing", nil, 0, true},
		{"nothing of what is none", nil, math.MaxUint64, true},
		{"none", way, 0, true},
		{"one", way, 2, true},
		{"one, and what is none", way, 1<<20 | 2, true},
		{"two that are a step apart", way, 5, true},
		{"two that are a way apart", way, 3, false},
		{"all, by steps alone", way, 7, false},
		{"all, by ways", []uint64{6, 0, 2}, 7, true},
		{"all, and what is none", []uint64{6, 0, 2}, math.MaxUint64, true},
		{"both before each other", []uint64{2, 1}, 3, true},
		{"each before itself alone", []uint64{1, 2}, 3, false},
		{"each before itself, one of them", []uint64{1, 2}, 2, true},
		{"what is outside does not count", []uint64{2, 0, 0}, 3, true},
	}
	for _, r := range rows {
		if got := Total(r.r, r.s); got != r.want {
			t.Errorf("%s: Total(%x, %x) = %v", r.name, r.r, r.s, got)
		}
	}
	for _, r := range tried() {
		for _, s := range subsets() {
			want := true
			for x := range r {
				for y := range r {
					if x != y && holds(s, x) && holds(s, y) && !holds(r[x], y) && !holds(r[y], x) {
						want = false
					}
				}
			}
			if got := Total(r, s); got != want {
				t.Errorf("Total(%x, %x) = %v", r, s, got)
			}
		}
	}
}

func TestDownAndUp(t *testing.T) {
	way, ring := []uint64{4, 0, 2}, []uint64{2, 4, 9, 0}
	rows := []struct {
		name     string
		r        []uint64
		s        uint64
		down, up uint64
	}{
		{"nothing", nil, math.MaxUint64, 0, 0},
		{"none", way, 0, 0, 0},
		{"what is none", way, 1<<9 | 8, 0, 0},
		{"the end", way, 2, 7, 2},
		{"the middle", way, 4, 5, 6},
		{"the start", way, 1, 1, 7},
		{"the end, and what is none", way, 1<<9 | 2, 7, 2},
		{"what a way round leads to", ring, 8, 15, 8},
		{"one on a way round", ring, 1, 7, 15},
		{"two apart", []uint64{2, 0, 8, 0}, 9, 13, 11},
		{"before itself", []uint64{1, 0}, 1, 1, 1},
	}
	for _, r := range rows {
		if down, up := Down(r.r, r.s), Up(r.r, r.s); down != r.down || up != r.up {
			t.Errorf("%s: Down, Up(%x, %x) = %x, %x, want %x, %x", r.name, r.r, r.s, down, up, r.down, r.up)
		}
	}
	for _, r := range tried() {
		way := comes(r)
		for _, s := range subsets() {
			down := set(len(r), func(x int) bool {
				return holds(s, x) || slices.ContainsFunc(others(r, s), func(y int) bool { return way[x][y] })
			})
			up := set(len(r), func(x int) bool {
				return holds(s, x) || slices.ContainsFunc(others(r, s), func(y int) bool { return way[y][x] })
			})
			if got := Down(r, s); got != down {
				t.Errorf("Down(%x, %x) = %x, want %x", r, s, got, down)
			}
			if got := Up(r, s); got != up {
				t.Errorf("Up(%x, %x) = %x, want %x", r, s, got, up)
			}
		}
	}
}

// others is the things of r that are in s.
func others(r []uint64, s uint64) []int {
	var l []int
	for x := range r {
		if holds(s, x) {
			l = append(l, x)
		}
	}
	return l
}

func TestOfWhatMayNotBe(t *testing.T) {
	for _, bad := range broken() {
		if Plus(bad) != nil || Star(bad) != nil || Acyclic(bad) {
			t.Errorf("Plus, Star or Acyclic of %d rows that may not be", len(bad))
		}
		if l, ok := Order(bad); ok || l != nil {
			t.Errorf("Order of %d rows that may not be: %v, %v", len(bad), l, ok)
		}
		if l, ok := Deep(bad); ok || l != nil {
			t.Errorf("Deep of %d rows that may not be: %v, %v", len(bad), l, ok)
		}
		for _, s := range subsets() {
			if Total(bad, s) || Down(bad, s) != 0 || Up(bad, s) != 0 {
				t.Errorf("Total, Down or Up of %d rows that may not be, and %x", len(bad), s)
			}
		}
	}
}

func TestOfNothing(t *testing.T) {
	for _, r := range [][]uint64{nil, {}} {
		order, ok := Order(r)
		deep, fine := Deep(r)
		if !ok || !fine || len(order) != 0 || len(deep) != 0 || !Acyclic(r) || len(Plus(r)) != 0 || len(Star(r)) != 0 {
			t.Errorf("of no things: %v, %v, %v, %v", order, ok, deep, fine)
		}
	}
}

func TestLaws(t *testing.T) {
	for _, r := range tried() {
		plus := Plus(r)
		if !rel.Same(Plus(plus), plus) || !rel.Same(Star(Star(r)), Star(r)) {
			t.Errorf("Plus of Plus, Star of Star, of %x", r)
		}
		if !rel.Same(plus, rel.Then(r, Star(r))) || !rel.Same(rel.Back(plus), Plus(rel.Back(r))) {
			t.Errorf("Plus as a step and more, and turned about, of %x", r)
		}
		_, ordered := Order(r)
		_, deep := Deep(r)
		if ordered != Acyclic(r) || deep != Acyclic(r) || Acyclic(plus) != Acyclic(r) {
			t.Errorf("Order, Deep and Acyclic do not agree on %x", r)
		}
		for _, s := range subsets() {
			if Down(r, s) != Up(rel.Back(r), s) || Up(r, s) != Down(rel.Back(r), s) {
				t.Errorf("Down and Up turned about, of %x, %x", r, s)
			}
			if Up(r, s) != rel.Into(Star(r), s) {
				t.Errorf("Up and Star of %x, %x", r, s)
			}
		}
	}
}

// TestLeaveAlone hands all calls rows with spare room behind them, and writes over what they answer.
func TestLeaveAlone(t *testing.T) {
	room := []uint64{2, 4, 0, 77, 78}
	r := room[:3]
	for _, made := range [][]uint64{Plus(r), Star(r)} {
		for i := range made {
			made[i] = 55
		}
		_ = append(made, 66)
	}
	order, _ := Order(r)
	deep, _ := Deep(r)
	order[0], deep[0] = 9, 9
	Acyclic(r)
	Total(r, 7)
	Down(r, 7)
	Up(r, 7)
	if !slices.Equal(room, []uint64{2, 4, 0, 77, 78}) {
		t.Errorf("what was handed in has changed: %v", room)
	}
	again, _ := Order(r)
	deeper, _ := Deep(r)
	if !slices.Equal(again, []int{0, 1, 2}) || !slices.Equal(deeper, []int{0, 1, 2}) {
		t.Errorf("an answer was kept: %v, %v", again, deeper)
	}
}
