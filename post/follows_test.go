package post_test

import (
	"reflect"
	"slices"
	"strings"
	"testing"

	"withe/api"
	"withe/post"
)

func call(c api.Cond, p place) (bool, bool) { return post.Holds(c, p.locs, p.regs, p.out) }

// What follows: Not of Not is what it was.
func TestNotOfNot(t *testing.T) {
	m := mixed(11)
	var came [2]int
	for range 20000 {
		p := m.place()
		c := m.cond(p, api.MaxDeep-2)
		if m.below(4) == 0 {
			m.dent(pick(&m, condsIn(&c)...))
		}
		is, ok := call(c, p)
		if !ok {
			p.wantNo(t, not(c))
			p.wantNo(t, not(not(c)))
			continue
		}
		p.want(t, not(c), !is)
		p.want(t, not(not(c)), is)
		if is {
			came[1]++
		} else {
			came[0]++
		}
	}
	if slices.Min(came[:]) < 2000 {
		t.Error("false, true came", came, "times")
	}
}

// And, Or are the same with sides changed, and one is the other of what does not hold.
func TestSidesChanged(t *testing.T) {
	m := mixed(13)
	for range 10000 {
		p := m.place()
		a, b := m.cond(p, api.MaxDeep-2), m.cond(p, api.MaxDeep-2)
		x, ok := call(a, p)
		y, too := call(b, p)
		if !ok || !too {
			continue
		}
		for _, c := range []api.Cond{and(a, b), and(b, a)} {
			p.want(t, c, x && y)
		}
		for _, c := range []api.Cond{or(a, b), or(b, a)} {
			p.want(t, c, x || y)
		}
		p.want(t, not(or(a, b)), !x && !y)
		p.want(t, and(not(a), not(b)), !x && !y)
		p.want(t, or(not(a), not(b)), !x || !y)
		p.want(t, and(a, a), x)
		p.want(t, or(b, b), y)
		p.want(t, and(a, not(a)), false)
		p.want(t, or(a, not(a)), true)
	}
}

// A condition that holds of an outcome holds of each that is the same.
func TestSameHoldsTheSame(t *testing.T) {
	m := mixed(15)
	for range 10000 {
		p := m.place()
		q := p
		q.out = m.near(p.out)
		c := m.cond(p, 4)
		if is, ok := call(c, p); ok && post.Same(p.out, q.out) {
			q.want(t, c, is)
		}
	}
}

// What follows: Less is an order, and of two unlike ones one is less.
func TestLessIsAnOrder(t *testing.T) {
	l := smallOuts(2)
	slices.Reverse(l)
	slices.SortFunc(l, func(a, b api.Out) int {
		if post.Less(a, b) {
			return -1
		}
		return 1
	})
	for i, a := range l { // each is less than all behind it alone: so less than what is less than what it is less than, too
		for j, b := range l {
			if post.Less(a, b) != (i < j) || post.Same(a, b) != (i == j) {
				t.Fatalf("%d and %d: %v, %v", i, j, a, b)
			}
		}
	}
}

func TestLessGoesThrough(t *testing.T) {
	m := mixed(17)
	through := 0
	for range 40000 {
		a := m.place().out
		b := m.near(a)
		c := m.near(b)
		if post.Less(a, b) && post.Less(b, c) {
			through++
			if !post.Less(a, c) || post.Same(a, c) {
				t.Fatalf("%v, %v, %v", a, b, c)
			}
		}
		one := 0
		for _, holds := range []bool{post.Less(a, c), post.Same(a, c), post.Less(c, a)} {
			if holds {
				one++
			}
		}
		if one != 1 {
			t.Fatalf("%v and %v: %d of less, same, more", a, c, one)
		}
	}
	if through < 2000 {
		t.Error("went through", through, "times")
	}
}

// What a line tells holds, and what a register or a location has is told there.
func TestLineTellsWhatHolds(t *testing.T) {
	m := mixed(19)
	for range 5000 {
		p := m.place()
		pieces := strings.Fields(post.Line(p.locs, p.regs, p.out))
		want := 0
		for i, l := range p.regs {
			if i < len(p.out.Regs) {
				want += min(len(l), len(p.out.Regs[i]))
			}
		}
		want += min(len(p.locs), len(p.out.Mem))
		if len(pieces) != want {
			t.Fatalf("%q of %v: not %d pieces", pieces, p, want)
		}
		for at, v := range p.model() {
			c := regIs(at.thread, at.name, v)
			if at.thread < 0 {
				c = mem(at.name, v)
			}
			p.want(t, c, true)
			one := place{[]string{at.name}, nil, api.Out{Mem: []int{v}}}.line()
			if at.thread >= 0 {
				one = string(rune('0'+at.thread)) + ":" + one
			}
			if !slices.Contains(pieces, one) {
				t.Fatalf("%q of %v: %s is not there", pieces, p, one)
			}
		}
	}
}

// roomy is a list with spare room, which has filler in it.
func roomy[T any](l []T, filler T) []T {
	return slices.Concat(l, []T{filler, filler, filler})[:len(l)]
}

// withRoom is a copy of c all of whose Kids have spare room.
func withRoom(c api.Cond) api.Cond {
	c.Kids = roomy(c.Kids, mem("filler", 77))
	for i, k := range c.Kids {
		c.Kids[i] = withRoom(k)
	}
	return c
}

// withRoom is a copy of p all of whose lists have spare room.
func (p place) withRoom() place {
	q := place{locs: roomy(p.locs, "filler"), regs: roomy(p.regs, []string{"filler"}), out: api.Out{Regs: roomy(p.out.Regs, []int{77}), Mem: roomy(p.out.Mem, 77)}}
	for i, l := range q.regs {
		q.regs[i] = roomy(l, "filler")
	}
	for i, l := range q.out.Regs {
		q.out.Regs[i] = roomy(l, 77)
	}
	return q
}

// whole is a copy of p with all spare room.
func (p place) whole() place {
	q := place{locs: roomOf(p.locs), out: api.Out{Mem: roomOf(p.out.Mem)}}
	for _, l := range p.regs[:cap(p.regs)] {
		q.regs = append(q.regs, roomOf(l))
	}
	for _, l := range p.out.Regs[:cap(p.out.Regs)] {
		q.out.Regs = append(q.out.Regs, roomOf(l))
	}
	return q
}

func roomOf[T any](l []T) []T { return slices.Clone(l[:cap(l)]) }

// wholeCond is a copy of c with all spare room.
func wholeCond(c api.Cond) api.Cond {
	kids := c.Kids[:cap(c.Kids)]
	c.Kids = nil
	for _, k := range kids {
		c.Kids = append(c.Kids, wholeCond(k))
	}
	return c
}

// What is handed in is as it was, spare room too.
func TestWhatIsHandedInIsNotChanged(t *testing.T) {
	m := mixed(23)
	for i := range 4000 {
		p := m.place()
		c := m.cond(p, 4)
		if i%2 == 1 {
			m.dent(pick(&m, condsIn(&c)...))
		}
		c = withRoom(c)
		p, q := p.withRoom(), place{out: m.near(p.out)}.withRoom()
		wasP, wasQ, wasC := p.whole(), q.whole(), wholeCond(c)
		post.Holds(c, p.locs, p.regs, p.out)
		post.Same(p.out, q.out)
		post.Less(p.out, q.out)
		post.Less(q.out, p.out)
		post.Line(p.locs, p.regs, p.out)
		if !reflect.DeepEqual(p.whole(), wasP) || !reflect.DeepEqual(q.whole(), wasQ) || !reflect.DeepEqual(wholeCond(c), wasC) {
			t.Fatalf("%s in %v, %v was %s in %v, %v", text(c, 9), p, q, text(wasC, 9), wasP, wasQ)
		}
	}
}

// A call hangs on what it is handed alone: not on calls ahead of it, nor on ones that run beside it, nor on what was handed in and is changed now.
func TestNothingIsKept(t *testing.T) {
	c := and(mem("x", 2), not(regIs(0, "r", 2)))
	p := plain()
	p.want(t, c, true)
	p.wantLine(t, "0:r=1 0:s=0 2:t=2 2:r=3 2:u=0 x=2 y=0 z=1")
	p.out.Regs[0][0] = 2
	p.want(t, c, false)
	p.wantLine(t, "0:r=2 0:s=0 2:t=2 2:r=3 2:u=0 x=2 y=0 z=1")
	p.regs[0][0], p.regs[0][1] = "s", "r"
	p.want(t, c, true)
	p.locs[0] = "z"
	p.wantNo(t, c)
	p.wantLine(t, "0:s=2 0:r=0 2:t=2 2:r=3 2:u=0 z=2 y=0 z=1")
	c.Kids[0].Name = "z"
	p.want(t, c, true)
	c.Kids[1].Kids[0].N = 0
	p.want(t, c, false)
	a, b := out([]int{1}, 1), out([]int{1}, 2)
	wantRising(t, a, b)
	a.Mem[0] = 2
	wantSame(t, a, b)
	a.Mem[0] = 3
	wantRising(t, b, a)
}

func TestCallsBesideOneAnother(t *testing.T) {
	done := make(chan bool)
	for k := range 8 {
		go func() {
			m := mixed(k)
			good := true
			for range 1000 {
				p := m.place()
				c := m.cond(p, 4)
				is, ok := call(c, p)
				asks := p.model().wrongs(c) == 0
				other := m.near(p.out)
				good = good && ok == asks && is == (asks && p.model().holds(c)) && post.Less(p.out, other) == (key(p.out) < key(other)) && post.Line(p.locs, p.regs, p.out) == p.line()
			}
			done <- good
		}()
	}
	for range 8 {
		if !<-done {
			t.Error("calls that run beside one another")
		}
	}
}
