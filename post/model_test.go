package post_test

import (
	"encoding/binary"
	"fmt"
	"slices"
	"strings"
	"testing"

	"withe/api"
	"withe/post"
)

// spot is a location (thread -1), or a thread's register.
type spot struct {
	thread int
	name   string
}

// model is a second way of saying what holds: first all that is wrong, wherever it stands, then what it comes to.
type model map[spot]int

func (m model) put(thread int, names []string, vals []int) {
	for i := len(names) - 1; i >= 0; i-- { // from behind, so that the first one stays
		delete(m, spot{thread, names[i]})
		if i < len(vals) {
			m[spot{thread, names[i]}] = vals[i]
		}
	}
}

func (p place) model() model {
	m := model{}
	m.put(-1, p.locs, p.out.Mem)
	for i, names := range p.regs {
		if i < len(p.out.Regs) {
			m.put(i, names, p.out.Regs[i])
		}
	}
	return m
}

func spotOf(c api.Cond) spot {
	if c.Op == api.Mem {
		return spot{-1, c.Name}
	}
	return spot{c.Thread, c.Name}
}

func depth(c api.Cond) int {
	most := 0
	for _, k := range c.Kids {
		most = max(most, depth(k))
	}
	return most + 1
}

// wrongs is how many things are wrong of c and all that is within it, however deep.
func (m model) wrongs(c api.Cond) int {
	n := 0
	for _, k := range c.Kids {
		n += m.wrongs(k)
	}
	kids := map[int]int{api.Mem: 0, api.RegIs: 0, api.Not: 1, api.And: 2, api.Or: 2}
	if want, known := kids[c.Op]; !known || want != len(c.Kids) {
		n++
	}
	if _, there := m[spotOf(c)]; !there && (c.Op == api.Mem || c.Op == api.RegIs) {
		n++
	}
	if c.Op == api.RegIs && c.Thread < 0 {
		n++
	}
	return n
}

// holds tells whether a condition that can be asked holds, by how many of its Kids do.
func (m model) holds(c api.Cond) bool {
	n := 0
	for _, k := range c.Kids {
		if m.holds(k) {
			n++
		}
	}
	switch c.Op {
	case api.Not:
		return n == 0
	case api.And:
		return n == 2
	case api.Or:
		return n > 0
	}
	return m[spotOf(c)] == c.N
}

// wantModel asks for what the model says, and tells whether c can be asked.
func (p place) wantModel(t *testing.T, c api.Cond) bool {
	t.Helper()
	m := p.model()
	if depth(c) > 6 || m.wrongs(c) > 0 {
		p.wantNo(t, c)
		return false
	}
	p.want(t, c, m.holds(c))
	return true
}

// key is a text of an outcome: of two unlike outcomes the lesser one has the lesser text.
func key(o api.Out) string {
	var b []byte
	list := func(l []int) {
		for _, v := range l {
			b = binary.BigEndian.AppendUint64(append(b, 2), uint64(v)^1<<63)
		}
	}
	for _, l := range o.Regs {
		list(l)
		b = append(b, 1)
	}
	b = append(b, 0)
	list(o.Mem)
	return string(b)
}

// wantOrder asks Same and Less of both, both ways, for what their keys say.
func wantOrder(t *testing.T, a, b api.Out) {
	t.Helper()
	by := strings.Compare(key(a), key(b))
	if post.Same(a, b) != (by == 0) || post.Same(b, a) != (by == 0) {
		t.Errorf("Same of %v and %v: %t, other way round %t", a, b, post.Same(a, b), post.Same(b, a))
	}
	if post.Less(a, b) != (by < 0) || post.Less(b, a) != (by > 0) {
		t.Errorf("Less of %v and %v: %t, other way round %t", a, b, post.Less(a, b), post.Less(b, a))
	}
}

// line is a second way of writing a line: piece by piece, each with a blank behind it.
func (p place) line() string {
	var b strings.Builder
	for t, l := range p.out.Regs {
		for i, v := range l {
			if t < len(p.regs) && i < len(p.regs[t]) {
				fmt.Fprintf(&b, "%d:%s=%d ", t, p.regs[t][i], v)
			}
		}
	}
	for i, v := range p.out.Mem {
		if i < len(p.locs) {
			fmt.Fprintf(&b, "%s=%d ", p.locs[i], v)
		}
	}
	return strings.TrimSuffix(b.String(), " ")
}

// wantLine asks that the line be s.
func (p place) wantLine(t *testing.T, s string) {
	t.Helper()
	if got := post.Line(p.locs, p.regs, p.out); got != s {
		t.Errorf("Line(%q, %q, %v) = %q, not %q", p.locs, p.regs, p.out, got, s)
	}
}

// mixed is a row of numbers without order, the same at each run.
type mixed uint64

func (m *mixed) below(n int) int {
	*m = *m*6364136223846793005 + 1442695040888963407
	return int(uint64(*m) >> 33 % uint64(n))
}

func pick[T any](m *mixed, l ...T) T { return l[m.below(len(l))] }

// vals are about n values, which are seldom far from 0.
func (m *mixed) vals(n int) []int {
	return some(max(0, n+m.below(3)-1), func(int) int {
		if m.below(8) == 0 {
			return pick(m, numbers()...)
		}
		return m.below(3)
	})
}

func (m *mixed) names(l ...string) []string {
	return some(m.below(5), func(int) string { return pick(m, l...) })
}

// place is one with names that are there more than once, now and then, and lists that are not all as long as they should be.
func (m *mixed) place() place {
	p := place{locs: m.names("x", "y", "z", "r")}
	p.out.Mem = m.vals(len(p.locs))
	for range m.below(5) {
		names := m.names("r", "s", "t", "x")
		p.regs = append(p.regs, names)
		p.out.Regs = append(p.out.Regs, m.vals(len(names)))
	}
	switch m.below(6) {
	case 0:
		p.regs = p.regs[:m.below(len(p.regs)+1)]
	case 1:
		p.out.Regs = p.out.Regs[:m.below(len(p.out.Regs)+1)]
	case 2:
		p.out.Regs = append(p.out.Regs, m.vals(2))
	}
	return p
}

// leaf asks for a spot that is there, if there is one; else c is wrong.
func (m *mixed) leaf(p place) api.Cond {
	var l []api.Cond
	for at, v := range p.model() {
		n := pick(m, v, v, v+1, v-1, 0, 1, 2)
		if at.thread < 0 {
			l = append(l, mem(at.name, n))
		} else {
			l = append(l, regIs(at.thread, at.name, n))
		}
	}
	if len(l) == 0 {
		return mem("none", 0)
	}
	slices.SortFunc(l, func(a, b api.Cond) int { return strings.Compare(text(a, 0), text(b, 0)) })
	return pick(m, l...)
}

// cond is a condition of that depth at most, all of whose parts can be asked, if p has a spot.
func (m *mixed) cond(p place, deep int) api.Cond {
	if deep == 1 || m.below(5) == 0 {
		return m.leaf(p)
	}
	if m.below(3) == 0 {
		return not(m.cond(p, deep-1))
	}
	return with(pick(m, api.And, api.Or), m.cond(p, deep-1), m.cond(p, deep-1))
}

// dent makes one condition wrong.
func (m *mixed) dent(c *api.Cond) {
	switch m.below(6) {
	case 0:
		c.Op = pick(m, append(odds(), 0, 6, -1)...)
	case 1:
		*c = mem(pick(m, "", "q", "X"), 0)
	case 2:
		*c = regIs(pick(m, append(odds(), -1, 5)...), "r", 0)
	case 3:
		*c = with(pick(m, api.Not, api.And, api.Or), some(pick(m, 0, 3, 4), func(int) api.Cond { return yes()[0] })...)
	case 4:
		*c = chain(api.MaxDeep+1+m.below(3), pick(m, api.And, api.Or), pick(m, ways()...), *c, mem("x", 0))
	case 5:
		c.Op, c.Kids = pick(m, api.Mem, api.RegIs), []api.Cond{*c}
	}
}

// small are all conditions of that depth at most over a few ones without Kids.
func small(deep int) []api.Cond {
	l := []api.Cond{mem("x", 2), mem("y", 1), mem("q", 0), regIs(0, "s", 0), regIs(2, "r", 1), regIs(1, "r", 0), {}}
	if deep == 1 {
		return l
	}
	in := small(deep - 1)
	for _, a := range in {
		for _, op := range []int{api.Not, api.And, api.Or} {
			l = append(l, with(op, a), with(op, a, a, a))
		}
		l = append(l, api.Cond{Op: api.Mem, Name: "x", N: 2, Kids: []api.Cond{a}}, api.Cond{Op: api.RegIs, Name: "r", N: 1, Kids: []api.Cond{a, a}})
		for _, b := range in {
			l = append(l, and(a, b), or(a, b), with(api.Not, a, b), with(6, a, b))
		}
	}
	return l
}

func TestAllSmallConditions(t *testing.T) {
	asked := 0
	for _, c := range small(3) {
		if plain().wantModel(t, c) {
			asked++
		}
		if t.Failed() {
			t.FailNow()
		}
	}
	if want := 4 + 40 + 2*40*40; asked != want { // 4 without Kids, 40 of depth 2 at most, of which Not has one, And and Or two
		t.Error(asked, "were asked, not", want)
	}
}

func TestManyConditions(t *testing.T) {
	var m mixed
	deepest, asked := 0, 0
	for range 30000 {
		p := m.place()
		c := m.cond(p, 1+m.below(api.MaxDeep))
		deepest = max(deepest, depth(c))
		if p.wantModel(t, c) {
			asked++
		}
		if t.Failed() {
			t.FailNow()
		}
	}
	if deepest != api.MaxDeep || asked < 25000 {
		t.Error("as deep as", deepest, "asked", asked)
	}
}

// One wrong condition, wherever it stands, and there is no answer to the whole.
func TestOneWrongWithinOthers(t *testing.T) {
	m := mixed(7)
	for range 30000 {
		p := m.place()
		c := m.cond(p, 1+m.below(api.MaxDeep))
		m.dent(pick(&m, condsIn(&c)...))
		if p.wantModel(t, c) {
			t.Errorf("%s of %v was asked", text(c, 9), p)
		}
		if t.Failed() {
			t.FailNow()
		}
	}
}

// smallOuts are all outcomes of up to that many threads, with up to two registers and up to two locations, each 0 or 1.
func smallOuts(threads int) (l []api.Out) {
	lists := [][]int{nil, {0}, {1}, {0, 0}, {0, 1}, {1, 0}, {1, 1}}
	rows := [][][]int{nil}
	for from := 0; threads > 0; threads-- {
		to := len(rows)
		for _, row := range rows[from:to] {
			for _, one := range lists {
				rows = append(rows, append(slices.Clone(row), one))
			}
		}
		from = to
	}
	for _, row := range rows {
		for _, mem := range lists {
			l = append(l, api.Out{Regs: row, Mem: mem})
		}
	}
	return l
}

func TestOrderOfAllSmallOuts(t *testing.T) {
	l := smallOuts(2)
	if len(l) != 57*7 {
		t.Fatal(len(l), "outcomes")
	}
	for _, a := range l {
		for _, b := range l {
			wantOrder(t, a, b)
		}
		if t.Failed() {
			t.FailNow()
		}
	}
}

// near is o with one thing changed, or none.
func (m *mixed) near(o api.Out) api.Out {
	n := api.Out{Mem: slices.Clone(o.Mem)}
	for _, l := range o.Regs {
		n.Regs = append(n.Regs, slices.Clone(l))
	}
	list := &n.Mem
	if len(n.Regs) > 0 && m.below(3) > 0 {
		list = &n.Regs[m.below(len(n.Regs))]
	}
	switch m.below(6) {
	case 0:
		*list = append(*list, pick(m, 0, -1, 1))
	case 1:
		*list = (*list)[:max(0, len(*list)-1)]
	case 2, 3:
		if len(*list) > 0 {
			(*list)[m.below(len(*list))] = pick(m, numbers()...)
		}
	case 4:
		n.Regs = append(n.Regs, nil)
	}
	return n
}

func TestOrderOfManyOuts(t *testing.T) {
	m := mixed(3)
	same := 0
	for range 60000 {
		a := m.place().out
		b := m.near(a)
		if m.below(3) == 0 {
			b = m.near(b)
		}
		if key(a) == key(b) {
			same++
		}
		wantOrder(t, a, b)
		wantOrder(t, a, m.place().out)
		if t.Failed() {
			t.FailNow()
		}
	}
	if same < 5000 || same > 30000 {
		t.Error(same, "were the same")
	}
}

func TestManyLines(t *testing.T) {
	m := mixed(5)
	for range 30000 {
		p := m.place()
		p.wantLine(t, p.line())
		if t.Failed() {
			t.FailNow()
		}
	}
}
