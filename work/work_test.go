package work

import (
	"math"
	"slices"
	"testing"
)

// out is all that l still has, as it comes.
func out(l *List) []int {
	var got []int
	for n, ok := l.Pop(); ok; n, ok = l.Pop() {
		got = append(got, n)
	}
	return got
}

// pushAll puts all of ns to l.
func pushAll(l *List, ns ...int) {
	for _, n := range ns {
		l.Push(n)
	}
}

// below is the numbers from 0 on, n of them.
func below(n int) []int {
	l := make([]int, n)
	for i := range l {
		l[i] = i
	}
	return l
}

// waiting is a thing of a slow list.
type waiting struct{ n, key int }

// slow is a list that looks at all its things, which lie as they were pushed, whenever one is asked for.
type slow struct {
	picks  []int
	pushed int
	things []waiting
}

func (s *slow) push(n int) {
	key := 0
	if len(s.picks) > 0 {
		// Counted on without a remainder, so that it leans on nothing of what is tested.
		at := s.pushed
		for at >= len(s.picks) {
			at -= len(s.picks)
		}
		key = s.picks[at]
	}
	s.things = append(s.things, waiting{n, key})
	s.pushed++
}

func (s *slow) pop() (int, bool) {
	if len(s.things) == 0 {
		return 0, false
	}
	best := 0
	for i, w := range s.things {
		if w.key < s.things[best].key {
			best = i
		}
	}
	n := s.things[best].n
	s.things = slices.Delete(s.things, best, best+1)
	return n, true
}

// agree takes the steps (true: Push of the next of ns, false: Pop) on l and on a slow list beside it, then empties both.
func agree(t *testing.T, l *List, picks []int, steps []bool, ns func(i int) int) {
	t.Helper()
	s := slow{picks: picks}
	both := func() bool {
		n, ok := l.Pop()
		wantN, wantOk := s.pop()
		if n != wantN || ok != wantOk {
			t.Errorf("picks %v, steps %v: Pop = %d, %v, want %d, %v", picks, steps, n, ok, wantN, wantOk)
		}
		return ok && wantOk
	}
	for i, push := range steps {
		if push {
			l.Push(ns(i))
			s.push(ns(i))
		} else {
			both()
		}
		if l.Len() != len(s.things) {
			t.Errorf("picks %v, steps %v: Len = %d behind step %d, want %d", picks, steps, l.Len(), i, len(s.things))
		}
	}
	for both() {
	}
	if l.Len() != 0 {
		t.Errorf("picks %v, steps %v: Len = %d of an empty list", picks, steps, l.Len())
	}
}

// mixed is a source of numbers by a fixed rule.
type mixed uint64

func (m *mixed) next() uint64 {
	*m = *m*6364136223846793005 + 1442695040888963407
	return uint64(*m) >> 33
}

// lists is all lists of n numbers, each one of from.
func lists(n int, from []int) [][]int {
	all := [][]int{{}}
	for range n {
		var longer [][]int
		for _, l := range all {
			for _, k := range from {
				longer = append(longer, append(slices.Clone(l), k))
			}
		}
		all = longer
	}
	return all
}

func TestExample(t *testing.T) {
	l := New([]int{5, 3})
	pushAll(l, 10, 11, 12)
	for _, want := range []int{11, 10, 12} {
		if n, ok := l.Pop(); !ok || n != want {
			t.Errorf("Pop = %d, %v, want %d", n, ok, want)
		}
	}
	if n, ok := l.Pop(); ok || n != 0 {
		t.Errorf("Pop of nothing = %d, %v", n, ok)
	}
}

func TestPicks(t *testing.T) {
	const least, greatest = math.MinInt, math.MaxInt
	rows := []struct {
		name               string
		picks, pushed, out []int
	}{
		{"nothing pushed", []int{3}, nil, nil},
		{"no picks", nil, []int{4, 2, 9, 1, 7}, []int{4, 2, 9, 1, 7}},
		{"an empty list of picks", []int{}, []int{4, 2, 9, 1, 7}, []int{4, 2, 9, 1, 7}},
		{"one pick", []int{6}, []int{4, 2, 9, 1, 7}, []int{4, 2, 9, 1, 7}},
		{"one pick below 0", []int{-6}, []int{4, 2, 9, 1, 7}, []int{4, 2, 9, 1, 7}},
		{"alike picks", []int{8, 8, 8}, []int{4, 2, 9, 1, 7}, []int{4, 2, 9, 1, 7}},
		{"as many picks as things", []int{3, 1, 2}, []int{4, 2, 9}, []int{2, 9, 4}},
		{"more picks than things", []int{2, 1, 0, -1}, []int{4, 2}, []int{2, 4}},
		{"fewer picks than things", []int{1, 0}, []int{10, 11, 12, 13, 14}, []int{11, 13, 10, 12, 14}},
		{"falling picks", []int{5, 4, 3, 2, 1}, []int{1, 2, 3, 4, 5}, []int{5, 4, 3, 2, 1}},
		{"rising picks", []int{1, 2, 3, 4, 5}, []int{5, 4, 3, 2, 1}, []int{5, 4, 3, 2, 1}},
		{"some picks alike", []int{1, 0, 1, 0, 1}, []int{9, 8, 7, 6, 5}, []int{8, 6, 9, 7, 5}},
		{"below 0 is ahead of 0", []int{0, -1, 1}, []int{1, 2, 3}, []int{2, 1, 3}},
		{"the greatest and the least", []int{greatest, least, 0}, []int{1, 2, 3}, []int{2, 3, 1}},
		{"beside the edges", []int{greatest, greatest - 1, least + 1, least}, []int{1, 2, 3, 4}, []int{4, 3, 2, 1}},
		{"the least is ahead of 1", []int{1, least}, []int{1, 2}, []int{2, 1}},
		{"the greatest is behind -2", []int{greatest, -2}, []int{1, 2}, []int{2, 1}},
		{"the same thing twice", []int{2, 1}, []int{7, 7, 7}, []int{7, 7, 7}},
		{"the same thing with two keys", []int{1, 3, 2}, []int{7, 7, 5}, []int{7, 5, 7}},
		{"things of every kind", nil, []int{0, -1, greatest, least, 0}, []int{0, -1, greatest, least, 0}},
		{"things say nothing of their order", []int{2, 1}, []int{least, greatest}, []int{greatest, least}},
	}
	for _, r := range rows {
		l := New(r.picks)
		pushAll(l, r.pushed...)
		if l.Len() != len(r.pushed) {
			t.Errorf("%s: Len = %d", r.name, l.Len())
		}
		if got := out(l); !slices.Equal(got, r.out) {
			t.Errorf("%s: %v came out, want %v", r.name, got, r.out)
		}
		if l.Len() != 0 {
			t.Errorf("%s: Len = %d at the end", r.name, l.Len())
		}
	}
}

func TestNothing(t *testing.T) {
	for _, picks := range [][]int{nil, {}, {1}, {2, 1}} {
		l := New(picks)
		if l == nil {
			t.Fatalf("New(%v) = nil", picks)
		}
		for range 3 {
			if n, ok := l.Pop(); ok || n != 0 || l.Len() != 0 {
				t.Errorf("picks %v: Pop of nothing = %d, %v, Len = %d", picks, n, ok, l.Len())
			}
		}
	}
}

// What is gone counts for the keys of what comes; a Pop of nothing does not.
func TestInTurn(t *testing.T) {
	l := New([]int{2, 1, 0})
	l.Pop()
	pushAll(l, 10, 11)
	if n, ok := l.Pop(); !ok || n != 11 {
		t.Errorf("Pop = %d, %v, want 11", n, ok)
	}
	pushAll(l, 12, 13)
	if got := out(l); !slices.Equal(got, []int{12, 10, 13}) {
		t.Errorf("%v came out", got)
	}
	l.Pop()
	l.Pop()
	pushAll(l, 14, 15, 16)
	if got := out(l); !slices.Equal(got, []int{15, 14, 16}) {
		t.Errorf("%v came out behind an empty list", got)
	}
}

// All picks of up to three keys, with all ways of seven steps.
func TestAllShortWays(t *testing.T) {
	const long = 7
	for n := range 4 {
		for _, picks := range lists(n, []int{-1, 0, 1}) {
			for way := range 1 << long {
				steps := make([]bool, long)
				for i := range steps {
					steps[i] = way>>i%2 == 1
				}
				agree(t, New(picks), picks, steps, func(i int) int { return i + 100 })
			}
		}
	}
}

func TestLongWays(t *testing.T) {
	m := mixed(4)
	for _, most := range []uint64{1, 2, 5, 1 << 20} {
		for _, n := range []int{0, 1, 2, 7, 64, 300} {
			picks := make([]int, n)
			for i := range picks {
				picks[i] = int(m.next()%most) - int(most/2)
			}
			for _, pushes := range []uint64{3, 5, 9} {
				steps, ns := make([]bool, 400), make([]int, 400)
				for i := range steps {
					steps[i] = m.next()%10 < pushes
					ns[i] = int(m.next()%50) - 25
				}
				agree(t, New(picks), picks, steps, func(i int) int { return ns[i] })
			}
		}
	}
}

// With many things the heap has many levels: what went in comes out as a sort by keys that keeps the order of alike ones lays it.
func TestMany(t *testing.T) {
	const count = 20000
	m := mixed(9)
	picks := make([]int, 4999)
	for i := range picks {
		picks[i] = int(m.next() % 700)
	}
	l, want := New(picks), below(count)
	pushAll(l, want...)
	slices.SortStableFunc(want, func(a, b int) int { return picks[a%len(picks)] - picks[b%len(picks)] })
	if got := out(l); !slices.Equal(got, want) {
		t.Error("many things came out in another order")
	}
}

func TestWithoutPicksAndFalling(t *testing.T) {
	const count = 1000
	things, falling := below(count), below(count)
	slices.Reverse(falling)
	l := New(nil)
	pushAll(l, things...)
	if got := out(l); !slices.Equal(got, things) {
		t.Error("without picks things came out in another order than they went in")
	}
	l = New(falling)
	pushAll(l, things...)
	if got := out(l); !slices.Equal(got, falling) {
		t.Error("with falling picks what came last did not come first")
	}
}

func TestNil(t *testing.T) {
	var l *List
	for range 2 {
		l.Push(5)
		if l.Len() != 0 {
			t.Errorf("Len of nil = %d", l.Len())
		}
		if n, ok := l.Pop(); ok || n != 0 {
			t.Errorf("Pop of nil = %d, %v", n, ok)
		}
	}
}

func TestNotMadeByNew(t *testing.T) {
	var a, b, c List
	if a.Len() != 0 {
		t.Errorf("Len = %d of a list that has nothing", a.Len())
	}
	if n, ok := a.Pop(); ok || n != 0 {
		t.Errorf("Pop of nothing = %d, %v", n, ok)
	}
	pushAll(&b, 3, 1, 2, 3)
	if b.Len() != 4 || a.Len() != 0 {
		t.Errorf("Len = %d, and %d of another list", b.Len(), a.Len())
	}
	if got := out(&b); !slices.Equal(got, []int{3, 1, 2, 3}) {
		t.Errorf("%v came out", got)
	}
	steps := []bool{false, true, true, false, true, false, false, false, true, true, true, false}
	for _, l := range []*List{&a, &b, &c, new(List), {}} {
		agree(t, l, nil, steps, func(i int) int { return 90 - i })
	}
}

func TestListsApart(t *testing.T) {
	picks := []int{1, 0}
	a, b := New(picks), New(picks)
	a.Push(1)
	pushAll(b, 10, 11)
	a.Push(2)
	if a.Len() != 2 || b.Len() != 2 {
		t.Errorf("Len = %d, %d", a.Len(), b.Len())
	}
	if got := out(a); !slices.Equal(got, []int{2, 1}) {
		t.Errorf("%v came out of the one", got)
	}
	if got := out(b); !slices.Equal(got, []int{11, 10}) {
		t.Errorf("%v came out of the other", got)
	}
}

// No call changes the picks or the room behind them, and what is done to both later is not seen.
func TestPicksStayTheirOwners(t *testing.T) {
	for n := range 4 {
		room := []int{3, 2, 1, -8, -9}
		given := slices.Clone(room)
		picks := room[:n]
		l := New(picks)
		pushAll(l, 1, 2, 3, 4, 5, 6)
		l.Pop()
		pushAll(l, 7, 8)
		out(l)
		if !slices.Equal(room, given) {
			t.Errorf("%d picks: they became %v", n, room)
		}
		kept := New(picks)
		for i := range room {
			room[i] = 100 * i
		}
		s := slow{picks: given[:n]}
		for i := range 9 {
			kept.Push(i)
			s.push(i)
		}
		for range 9 {
			got, _ := kept.Pop()
			if want, _ := s.pop(); got != want {
				t.Errorf("%d picks: Pop = %d, want %d, when they were changed behind New", n, got, want)
			}
		}
	}
}
