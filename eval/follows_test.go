package eval_test

import (
	"reflect"
	"slices"
	"testing"

	"withe/api"
	"withe/eval"
)

// What follows: sums go round: one more n times, or n times the same, is back where it was, and what is taken away again was never there.
func TestSumsGoRound(t *testing.T) {
	m := mixed(3)
	for range 4000 {
		p := m.place()
		a, b, c := m.expr(p, 3), m.expr(p, 3), m.expr(p, 3)
		v, _ := call(a, p)
		at := v
		for k := 1; k <= 2*p.n; k++ {
			more, ok := call(plus(a, num(k)), p)
			if at++; at == p.n {
				at = 0
			}
			if more != at || !ok {
				t.Fatalf("%d more than %d, of %d values: %d, %t", k, v, p.n, more, ok)
			}
		}
		same := func(x, y api.Expr) {
			t.Helper()
			u, ok := call(x, p)
			if w, too := call(y, p); u != w || !ok || !too {
				t.Fatalf("%v and %v in %v: %d, %d", x, y, p, u, w)
			}
			p.want(t, eq(x, y), 1)
		}
		same(plus(a, num(p.n)), a)
		same(minus(a, num(p.n)), a)
		same(plus(a, b), plus(b, a))
		same(plus(plus(a, b), c), plus(a, plus(b, c)))
		same(minus(plus(a, b), b), a)
		same(plus(minus(a, b), b), a)
		same(minus(a, b), minus(num(0), minus(b, a)))
		same(minus(a, plus(b, c)), minus(minus(a, b), c))
		p.want(t, minus(a, a), 0)
	}
}

// What follows: Eq is the same with sides changed, Less never holds both ways; of less, the same, more just one holds.
func TestSidesChanged(t *testing.T) {
	m := mixed(5)
	var held [3]int
	for range 8000 {
		p := m.place()
		a, b := m.expr(p, api.MaxDeep-1), m.expr(p, api.MaxDeep-1)
		e, _ := call(eq(a, b), p)
		p.want(t, eq(b, a), e)
		l, _ := call(less(a, b), p)
		g, _ := call(less(b, a), p)
		if l+e+g != 1 || l == 1 && g == 1 {
			t.Fatalf("%v and %v in %v: less %d, the same %d, more %d", a, b, p, l, e, g)
		}
		held[0], held[1], held[2] = held[0]+l, held[1]+e, held[2]+g
		p.want(t, eq(a, a), 1)
		p.want(t, less(a, a), 0)
		if t.Failed() {
			t.FailNow()
		}
	}
	if slices.Min(held[:]) < 1000 {
		t.Error("less, the same, more held", held, "times")
	}
}

// Less goes through: what is less than what is less is less.
func TestLessGoesThrough(t *testing.T) {
	for n := 2; n <= api.MaxVals; n++ {
		p := place{[]string{"a", "b", "c"}, nil, n}
		for i := range 1000 {
			p.vals = []int{i%10 - 3, i/10%10 - 3, i/100 - 3}
			ab, _ := call(less(reg("a"), reg("b")), p)
			bc, _ := call(less(reg("b"), reg("c")), p)
			if ab == 1 && bc == 1 {
				p.want(t, less(reg("a"), reg("c")), 1)
			}
		}
	}
}

// What comes is a value, and each value comes.
func TestValuesAlone(t *testing.T) {
	m := mixed(9)
	for n := 2; n <= api.MaxVals; n++ {
		seen := make([]int, n)
		for range 4000 {
			p := m.place()
			p.n = n
			v, ok := call(m.expr(p, 4), p)
			if !ok || v < 0 || v >= n {
				t.Fatal(v, ok, "of", n)
			}
			seen[v]++
		}
		if slices.Min(seen) < 100 {
			t.Error("values of", n, "came", seen, "times")
		}
	}
}

// An expression comes to the same where each of its Kids stands as a register that has what the Kid comes to.
func TestKidsAsRegisters(t *testing.T) {
	m := mixed(13)
	for range 8000 {
		p := m.place()
		op, a, b := pick(&m, pairOps()...), m.expr(p, 5), m.expr(p, 5)
		v, ok := call(pair(op, a, b), p)
		x, _ := call(a, p)
		y, _ := call(b, p)
		if !ok {
			t.Fatalf("%v, %v in %v", a, b, p)
		}
		place{[]string{"x", "y"}, []int{x, y}, p.n}.want(t, pair(op, reg("x"), reg("y")), v)
		place{nil, nil, p.n}.want(t, pair(op, num(x), num(y)), v)
	}
}

// roomy is a list with spare room, which has filler in it.
func roomy[T any](l []T, filler T) []T {
	out := slices.Concat(l, []T{filler, filler, filler})
	return out[:len(l)]
}

// withRoom is a copy of e all of whose Kids have spare room.
func withRoom(e api.Expr) api.Expr {
	e.Kids = roomy(e.Kids, num(77))
	for i, k := range e.Kids {
		e.Kids[i] = withRoom(k)
	}
	return e
}

// What is handed in is as it was, spare room too.
func TestWhatIsHandedInIsNotChanged(t *testing.T) {
	m := mixed(17)
	for i := range 4000 {
		p := m.place()
		e := m.expr(p, 4)
		if i%2 == 1 {
			m.dent(pick(&m, exprsIn(&e)...))
		}
		e = withRoom(e)
		p.regs, p.vals = roomy(p.regs, "filler"), roomy(p.vals, 77)
		was := copied(e)
		regs, vals := slices.Clone(p.regs[:cap(p.regs)]), slices.Clone(p.vals[:cap(p.vals)])
		eval.Expr(e, p.regs, p.vals, p.n)
		eval.True(e, p.regs, p.vals, p.n)
		if !reflect.DeepEqual(copied(e), was) || !slices.Equal(p.regs[:cap(p.regs)], regs) || !slices.Equal(p.vals[:cap(p.vals)], vals) {
			t.Fatalf("%v in %v was %v", e, p, was)
		}
		for _, in := range exprsIn(&e) {
			for _, k := range in.Kids[len(in.Kids):][:3] {
				if !reflect.DeepEqual(k, num(77)) {
					t.Fatalf("spare room of %v: %v", in, k)
				}
			}
		}
	}
}

// A call hangs on what it is handed alone: not on calls ahead of it, nor on ones that run beside it, nor on what was handed in and is changed now.
func TestNothingIsKept(t *testing.T) {
	e := plus(reg("r"), minus(reg("s"), num(1)))
	p := place{[]string{"r", "s"}, []int{1, 2}, 4}
	p.want(t, e, 2)
	p.vals[0] = 3
	p.want(t, e, 0)
	p.regs[0], p.regs[1] = "s", "r"
	p.want(t, e, 0)
	p.vals[1] = 1
	p.want(t, e, 3)
	e.Kids[1].Kids[1] = num(2)
	p.want(t, e, 2)
	p.n = 3
	p.want(t, e, 2)
	e.Kids[0].Op = 0
	p.wantNo(t, e)
	done := make(chan bool)
	for k := range 8 {
		go func() {
			own := place{[]string{"r", "s"}, []int{k, k / 2}, 4}
			good := true
			for range 2000 {
				v, ok := call(plus(reg("r"), eq(reg("s"), num(k))), own)
				w, _ := call(minus(reg("r"), num(k)), own)
				good = good && ok && w == 0 && v == own.model().value(plus(reg("r"), eq(reg("s"), num(k))))
			}
			done <- good
		}()
	}
	for range 8 {
		if !<-done {
			t.Error("calls that run beside one another")
		}
	}
}
