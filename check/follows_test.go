package check_test

import (
	"fmt"
	"reflect"
	"slices"
	"strconv"
	"strings"
	"testing"

	"withe/api"
	"withe/check"
	"withe/parse"
	"withe/show"
)

// What follows: what is made of parts that may be may be.
func TestProgramsOfPartsThatMayBe(t *testing.T) {
	var most, deepest int
	for seed := range 4000 {
		p := fairProg(seed)
		wantMay(t, p, api.OK, 0)
		for i, l := range p.Threads {
			wantStmts(t, l, len(spots(l, i, 0)))
			wantRegs(t, l, modelRegs(l)...)
			most = max(most, check.Stmts(l))
		}
		deepest = max(deepest, condDepth(p.Cond))
		if t.Failed() {
			t.FailNow()
		}
	}
	if most != api.MaxStmts || deepest != api.MaxDeep {
		t.Errorf("at most %d statements of a thread, %d conditions within one another", most, deepest)
	}
}

// Parts of several programs that may be, put together, may be: heads, inits, threads, questions of as many values and locations; those of fewer values too.
func TestPartsPutTogether(t *testing.T) {
	fitting := map[[2]int][]api.Prog{}
	for seed := range 1500 {
		p := fairProg(seed)
		key := [2]int{p.Vals, len(p.Init)}
		fitting[key] = append(fitting[key], p)
	}
	m := mixed(3)
	for vals := 2; vals <= api.MaxVals; vals++ {
		for locs := range api.MaxLocs + 1 {
			some := func() api.Prog { return pick(&m, fitting[[2]int{vals, locs}]...) }
			fewer := func() api.Prog { return pick(&m, fitting[[2]int{2 + m.below(vals-1), locs}]...) }
			for range 200 {
				of := fewer()
				p := api.Prog{Name: some().Name, Vals: some().Vals, Init: fewer().Init, Threads: slices.Clone(of.Threads), Ask: some().Ask, Cond: of.Cond}
				for len(p.Threads) < api.MaxThreads {
					p.Threads = append(p.Threads, pick(&m, fewer().Threads...))
				}
				wantMay(t, p, api.OK, 0)
			}
		}
	}
}

// wrong is a way to make one part wrong that may be, and what is told of it then.
type wrong struct {
	part int
	err  api.Errno
	make func(p *api.Prog)
}

func wrongHeads() []wrong {
	return []wrong{
		{0, api.ErrName, func(p *api.Prog) { p.Name = "values" }}, {0, api.ErrName, func(p *api.Prog) { p.Name += " " }}, {0, api.ErrArg, func(p *api.Prog) { p.Vals = 1 }}, {0, api.ErrArg, func(p *api.Prog) { p.Vals = 5 }},
		{0, api.ErrLong, func(p *api.Prog) { p.Init = cells(5) }}, {0, api.ErrArg, func(p *api.Prog) { p.Threads = nil }}, {0, api.ErrLong, func(p *api.Prog) { p.Threads = make([][]api.Stmt, 5) }},
	}
}

func wrongInits(p api.Prog) []wrong {
	var l []wrong
	for i := range p.Init {
		l = append(l,
			wrong{1 + i, api.ErrName, func(p *api.Prog) { p.Init[i].Loc = "" }}, wrong{1 + i, api.ErrName, func(p *api.Prog) { p.Init[i].Loc += "ninebytes" }},
			wrong{1 + i, api.ErrArg, func(p *api.Prog) { p.Init[i].N = -1 }}, wrong{1 + i, api.ErrArg, func(p *api.Prog) { p.Init[i].N = p.Vals }},
		)
		for k := range i {
			l = append(l, wrong{1 + i, api.ErrName, func(p *api.Prog) { p.Init[i].Loc = p.Init[k].Loc }})
		}
	}
	return l
}

// wrongStmt is the ways to make the i-th statement wrong, which is s.
func wrongStmt(i, part int, s api.Stmt) []wrong {
	by := func(err api.Errno, set func(*api.Stmt)) wrong {
		return wrong{part, err, func(p *api.Prog) { set(allStmts(p)[i]) }}
	}
	l := []wrong{
		by(api.ErrArg, func(s *api.Stmt) { s.Kind = 0 }), by(api.ErrArg, func(s *api.Stmt) { s.Kind = 8 }),
		by(api.ErrArg, func(s *api.Stmt) { s.Mode = -1 }), by(api.ErrArg, func(s *api.Stmt) { s.Mode = 5 }),
		by(api.ErrArg, func(s *api.Stmt) { s.Args = append(s.Args, num(0)) }),
	}
	if s.Kind != api.If {
		l = append(l, by(api.ErrArg, func(s *api.Stmt) { s.Then = stmts(fence()) }), by(api.ErrArg, func(s *api.Stmt) { s.Else = stmts(fence()) }))
	}
	if s.Reg != "" {
		l = append(l, by(api.ErrName, func(s *api.Stmt) { s.Reg = "" }), by(api.ErrName, func(s *api.Stmt) { s.Reg = "cas" }))
	} else {
		l = append(l, by(api.ErrArg, func(s *api.Stmt) { s.Reg = "r" }))
	}
	if s.Loc != "" {
		l = append(l, by(api.ErrName, func(s *api.Stmt) { s.Loc = "" }), by(api.ErrName, func(s *api.Stmt) { s.Loc = "none" }))
	} else {
		l = append(l, by(api.ErrArg, func(s *api.Stmt) { s.Loc = "x" }))
	}
	for k := range s.Args {
		l = append(l,
			by(api.ErrArg, func(s *api.Stmt) { s.Args = s.Args[1:] }),
			by(api.ErrLong, func(s *api.Stmt) { s.Args[k] = chain(7, api.Eq, num(1)) }),
		)
		for n := range exprsIn(&s.Args[k]) {
			in := func(err api.Errno, set func(e *api.Expr, p *api.Prog)) wrong {
				return wrong{part, err, func(p *api.Prog) { set(exprsIn(&allStmts(p)[i].Args[k])[n], p) }}
			}
			l = append(l,
				in(api.ErrArg, func(e *api.Expr, _ *api.Prog) { e.Op = 7 }), in(api.ErrArg, func(e *api.Expr, _ *api.Prog) { *e = api.Expr{} }),
				in(api.ErrArg, func(e *api.Expr, p *api.Prog) { *e = num(p.Vals) }), in(api.ErrArg, func(e *api.Expr, _ *api.Prog) { *e = num(-1) }),
				in(api.ErrName, func(e *api.Expr, _ *api.Prog) { *e = reg("none") }), in(api.ErrArg, func(e *api.Expr, _ *api.Prog) { e.Name, e.N = "r", -1 }),
			)
		}
	}
	return l
}

func wrongQuestions(part int, c api.Cond) []wrong {
	l := []wrong{
		{part, api.ErrArg, func(p *api.Prog) { p.Ask = 0 }}, {part, api.ErrArg, func(p *api.Prog) { p.Ask = 3 }},
		{part, api.ErrLong, func(p *api.Prog) { p.Cond = notChain(7, p.Cond) }},
	}
	for i := range condsIn(&c) {
		by := func(err api.Errno, set func(c *api.Cond, p *api.Prog)) {
			l = append(l, wrong{part, err, func(p *api.Prog) { set(condsIn(&p.Cond)[i], p) }})
		}
		by(api.ErrArg, func(c *api.Cond, _ *api.Prog) { c.Op = 6 })
		by(api.ErrArg, func(c *api.Cond, _ *api.Prog) { *c = api.Cond{} })
		by(api.ErrArg, func(c *api.Cond, p *api.Prog) { c.Thread = len(p.Threads) })
		by(api.ErrArg, func(c *api.Cond, _ *api.Prog) { c.Thread = -1 })
		by(api.ErrArg, func(c *api.Cond, p *api.Prog) { c.N = p.Vals })
		by(api.ErrArg, func(c *api.Cond, _ *api.Prog) { c.N = -1 })
		by(api.ErrName, func(c *api.Cond, _ *api.Prog) { *c = mem("none", 0) })
		by(api.ErrName, func(c *api.Cond, _ *api.Prog) { *c = regIs(0, "none", 0) })
		by(api.ErrArg, func(c *api.Cond, _ *api.Prog) { c.Kids = grown(c.Kids, api.Cond{}) })
	}
	return l
}

// wrongs are ways to make one part of a program that may be wrong.
func wrongs(p api.Prog) []wrong {
	l := append(wrongHeads(), wrongInits(p)...)
	all := allStmts(&p)
	for i, s := range all {
		l = append(l, wrongStmt(i, 1+len(p.Init)+i, *s)...)
	}
	return append(l, wrongQuestions(1+len(p.Init)+len(all), p.Cond)...)
}

// What follows: one part that may not be is told by its number. (A condition that is as deep as may be, and has a Kid more, is too deep then.)
func TestOnePartThatMayNotBe(t *testing.T) {
	for seed := range 60 {
		for _, w := range wrongs(fairProg(seed)) {
			p := fairProg(seed)
			w.make(&p)
			if w.err == api.ErrArg && condDepth(p.Cond) > api.MaxDeep {
				w.err = api.ErrLong
			}
			wantMay(t, p, w.err, w.part)
		}
		if t.Failed() {
			t.FailNow()
		}
	}
}

// Of two parts that may not be the first one is told.
func TestTwoPartsThatMayNotBe(t *testing.T) {
	m := mixed(11)
	both := 0
	for seed := range 1500 {
		l := wrongs(fairProg(seed))
		a, b := pick(&m, l...), pick(&m, l...)
		if a.part >= b.part {
			continue
		}
		both++
		p := fairProg(seed)
		b.make(&p)
		a.make(&p)
		if e, part := check.May(p); e != a.err || part != a.part {
			t.Fatalf("May(%+v) = %d at %d, not %d at %d", p, e, part, a.err, a.part)
		}
	}
	if both < 400 {
		t.Errorf("only %d had two such parts", both)
	}
}

// fresh is c in new memory all the way down, so that it may be put into what it was taken from.
func fresh(c api.Cond) api.Cond {
	c.Kids = slices.Clone(c.Kids)
	for i := range c.Kids {
		c.Kids[i] = fresh(c.Kids[i])
	}
	return c
}

// grown is l with some more, in new memory.
func grown[T any](l []T, one ...T) []T { return append(slices.Clip(l), one...) }

// dented makes some things of a program others, which may be or not.
func dented(m *mixed, p *api.Prog) {
	number := func() int { return pick(m, -1, 0, 1, 2, 3, 4, 5, 7, 9) }
	name := func() string {
		return pick(m, "", "x", "Y", "w1", "r", "s", "u", "q", "load", "ninebytes", "1", "R1", "register", "a")
	}
	for range 1 + m.below(3) {
		all := allStmts(p)
		switch k := m.below(12); {
		case k == 0:
			pick(m, func() { p.Name = name() }, func() { p.Vals = number() }, func() { p.Init = append(p.Init, api.Cell{Loc: name(), N: number()}) }, func() { p.Threads = append(p.Threads, nil) }, func() { p.Ask = number() })()
		case k == 1 && len(p.Init) > 0:
			c := &p.Init[m.below(len(p.Init))]
			pick(m, func() { c.Loc = name() }, func() { c.N = number() })()
		case k <= 8 && len(all) > 0:
			dentStmt(m, pick(m, all...), number, name)
		default:
			c := pick(m, condsIn(&p.Cond)...)
			pick(m, func() { c.Op = number() }, func() { c.Thread = number() }, func() { c.Name = name() }, func() { c.N = number() }, func() { c.Kids = grown(c.Kids, fresh(pick(m, condsOf(p.Cond)...))) }, func() { c.Kids = c.Kids[:len(c.Kids)/2] }, func() { *c = join(api.Not, *c) })()
		}
	}
}

func dentStmt(m *mixed, s *api.Stmt, number func() int, name func() string) {
	pick(m,
		func() { s.Kind = number() }, func() { s.Mode = number() }, func() { s.Reg = name() }, func() { s.Loc = name() }, func() { s.Reg, s.Loc = name(), name() },
		func() { s.Then = grown(s.Then, many(m.below(9), *s)...) }, func() { s.Else = grown(s.Else, many(m.below(9), fence())...) }, func() { s.Then, s.Else = s.Else, s.Then },
		func() { s.Args = grown(s.Args, num(number())) }, func() { s.Args = s.Args[:len(s.Args)/2] }, func() { *s = when(reg(name()), stmts(*s), nil) },
	)()
	if len(s.Args) == 0 || m.below(2) == 0 {
		return
	}
	e := pick(m, exprsIn(&s.Args[m.below(len(s.Args))])...)
	pick(m, func() { e.Op = number() }, func() { e.N = number() }, func() { e.Name = name() }, func() { e.Kids = grown(e.Kids, num(number())) }, func() { *e = pair(api.Plus, *e, reg(name())) }, func() { *e = num(number()) }, func() { *e = reg(name()) })()
}

// Programs with up to three dents, held against the model. It must have told each error of each kind of part.
func TestDentedProgramsAgainstModel(t *testing.T) {
	m := mixed(5)
	told := map[string]int{}
	for seed := range 8000 {
		p := fairProg(seed)
		dented(&m, &p)
		err, part := modelMay(p)
		wantMay(t, p, err, part)
		for _, l := range p.Threads {
			wantRegs(t, l, modelRegs(l)...)
			wantStmts(t, l, len(spots(l, 0, 0)))
		}
		if t.Failed() {
			t.FailNow()
		}
		kind := "statement"
		switch {
		case err == api.OK:
			kind = "none"
		case part == 0:
			kind = "head"
		case part <= len(p.Init):
			kind = "init"
		case part == 1+len(p.Init)+len(allSpots(p)):
			kind = "question"
		}
		told[kind+" "+strconv.Itoa(int(err))]++
	}
	for _, k := range strings.Split("none 0,head 1,head 3,head 4,init 1,init 4,statement 1,statement 3,statement 4,question 1,question 3,question 4", ",") {
		if told[k] < 10 {
			t.Errorf("%s: only %d", k, told[k])
		}
	}
}

// The part's number is the place's in what Places tells of the program's text.
func TestPartsOfTexts(t *testing.T) {
	m := mixed(6)
	read := 0
	for seed := range 1500 {
		p := fairProg(seed)
		if seed%2 == 0 {
			dented(&m, &p)
		}
		text := show.Prog(p)
		again, fault := parse.Parse(text)
		if fault != (api.Fault{}) {
			continue
		}
		read++
		places, _ := parse.Places(text)
		n := 2 + len(again.Init)
		for _, l := range again.Threads {
			n += check.Stmts(l)
		}
		if len(places) != n {
			t.Fatalf("%s has %d parts, not %d", text, len(places), n)
		}
		if err, part := check.May(again); part >= n || seed%2 != 0 && err != api.OK {
			t.Fatalf("%s may not be: %d at %d", text, err, part)
		}
		if again2, f := parse.Parse(show.Prog(again)); seed%2 != 0 && (f != fault || fmt.Sprint(again2) != fmt.Sprint(p)) {
			t.Fatalf("%s is read again as %v", text, again2)
		}
	}
	if read < 500 {
		t.Errorf("only %d were read", read)
	}
}

func TestPlacesOfParts(t *testing.T) {
	for _, c := range []struct {
		text string // ^ stands ahead of the part that is wrong
		err  api.Errno
	}{
		{"^litmus values1 values 7 thread { } exists x == 1", api.ErrArg},
		{"^litmus a values 2 init x 9 exists y == 9", api.ErrArg},
		{"litmus a values 2 init x 0 ^init y 2 thread { store rlx z 1; } exists x == 1", api.ErrArg},
		{"litmus a values 2 thread { r = 0; ^s = load sc x; } exists 0:r == 1", api.ErrName},
		{"litmus a values 2 init x 0 thread { if 1 { r = 1; } else { if 0 { ^store acq x 1; } r = 2; } s = t; } exists x == 1", api.ErrArg},
		{"litmus a values 2 init x 0 thread { if 1 { r = 1; } else { if 0 { } ^r = 2; } s = t; } exists x == 1", api.ErrArg},
		{"litmus a values 2 init x 0 thread { if 1 { r = 1; } else { if 0 { } } ^s = t; } exists x == 1", api.ErrName},
		{"litmus a values 2 init x 0 thread { } thread { r = 1; } thread { ^r = r; } exists x == 1", api.ErrName},
		{"litmus a values 2 init x 0 thread { if 1 { r = 1; } else { s = 1; } } thread { r = 1; } ^forall 1:s == 1", api.ErrName},
	} {
		at := strings.IndexByte(c.text, '^')
		text := strings.Replace(c.text, "^", "", 1)
		p, fault := parse.Parse(text)
		if fault != (api.Fault{}) {
			t.Fatal(text, fault)
		}
		places, _ := parse.Places(text)
		if err, part := check.May(p); err != c.err || part >= len(places) || places[part] != at {
			t.Errorf("%s: %d at part %d", c.text, err, part)
		}
	}
}

// roomy puts spare room behind all lists of v, with something in it.
func roomy(v reflect.Value) {
	switch v.Kind() {
	case reflect.Struct:
		for i := range v.NumField() {
			roomy(v.Field(i))
		}
	case reflect.Slice:
		for i := range v.Len() {
			roomy(v.Index(i))
		}
		n := v.Len()
		l := reflect.MakeSlice(v.Type(), n+3, n+3)
		reflect.Copy(l, v)
		if n > 0 {
			l.Index(n).Set(l.Index(0))
		}
		v.Set(l.Slice(0, n))
	}
}

// spelt is all that stands in v, in spare room too, and where it stands.
func spelt(v reflect.Value) string {
	var b strings.Builder
	switch v.Kind() {
	case reflect.Struct:
		for i := range v.NumField() {
			b.WriteString(spelt(v.Field(i)) + ",")
		}
	case reflect.Slice:
		fmt.Fprint(&b, v.Pointer(), v.Len(), v.Cap())
		for i := range v.Cap() {
			b.WriteString(" " + spelt(v.Slice(0, v.Cap()).Index(i)))
		}
	default:
		fmt.Fprint(&b, v.Interface())
	}
	return b.String()
}

func TestNothingHandedInIsChanged(t *testing.T) {
	m := mixed(8)
	for seed := range 20 {
		p := fairProg(seed)
		if seed%2 == 0 {
			dented(&m, &p)
		}
		roomy(reflect.ValueOf(&p).Elem())
		was := spelt(reflect.ValueOf(p))
		err, part := check.May(p)
		for _, l := range p.Threads {
			check.Stmts(l)
			check.Regs(l)
		}
		if spelt(reflect.ValueOf(p)) != was {
			t.Fatalf("what was handed in is now %+v", p)
		}
		wantMay(t, p, err, part)
	}
}

// An answer of Regs is not changed by what is done to another one, nor to what was handed in; nor is that by what is done to an answer.
func TestRegsAreNew(t *testing.T) {
	l := stmts(set("a", num(0)), when(num(1), stmts(set("b", num(0))), stmts(set("c", num(0)))))
	first, second := check.Regs(l), check.Regs(l)
	for i := range first[:cap(first)] {
		first[:cap(first)][i] = "gone"
	}
	wantRegs(t, l, "a", "b", "c")
	l[0].Reg = "d"
	if !slices.Equal(second, []string{"a", "b", "c"}) {
		t.Errorf("an answer became %q", second)
	}
	wantRegs(t, l, "d", "b", "c")
}

// What was asked ahead of a call does not matter to it.
func TestCallsDoNotHangOnOthers(t *testing.T) {
	for seed := range 50 {
		p := fairProg(seed)
		wantMay(t, p, api.OK, 0)
		wantMay(t, prog(stmts(load("r", "z"))), api.ErrName, 3)
		wantMay(t, api.Prog{}, api.ErrName, 0)
		wantMay(t, p, api.OK, 0)
	}
}

func TestDeepStatements(t *testing.T) {
	const deep = 1 << 15
	inner := stmts(set("r", num(1)))
	for i := range deep {
		if i%2 == 0 {
			inner = stmts(when(num(1), inner, nil))
		} else {
			inner = stmts(when(num(1), nil, inner))
		}
	}
	if n := check.Stmts(inner); n != deep+1 {
		t.Error(n)
	}
	if l := check.Regs(inner); !slices.Equal(l, []string{"r"}) {
		t.Error(l)
	}
	if err, part := check.May(prog(inner)); err != api.ErrLong || part != 10 {
		t.Error(err, part)
	}
}

func TestManyStatements(t *testing.T) {
	const n = 1 << 13
	l := make([]api.Stmt, n)
	var want []string
	for i := range l {
		r := "r" + strconv.Itoa(i%(n/2))
		l[i] = set(r, num(1))
		if i < n/2 {
			want = append(want, r)
		}
	}
	if got := check.Stmts(l); got != n {
		t.Error(got)
	}
	if !slices.Equal(check.Regs(l), want) {
		t.Error("not each once, in order")
	}
	if err, part := check.May(prog(l)); err != api.ErrLong || part != 7 {
		t.Error(err, part)
	}
	p := prog(many(n, fence()))
	if err, part := check.May(p); err != api.ErrLong || part != 19 {
		t.Error(err, part)
	}
}

func TestDeepExpressionsAndConditions(t *testing.T) {
	const deep = 1 << 15
	p := prog(stmts(set("r", chain(deep, api.Plus, num(1)))))
	if err, part := check.May(p); err != api.ErrLong || part != 3 {
		t.Error(err, part)
	}
	p = prog(nil)
	p.Cond = sideChain(deep, api.Or, mem("x", 1))
	if err, part := check.May(p); err != api.ErrLong || part != 3 {
		t.Error(err, part)
	}
}
