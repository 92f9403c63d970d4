package parse

import (
	"reflect"
	"slices"
	"strings"
	"testing"

	"withe/api"
	"withe/lex"
)

const (
	head = "litmus a values 2 "
	tail = " exists x == 1"
	most = "4611686018427387904" // MaxNum in digits
	over = "4611686018427387905" // one more
	full = `litmus a values 3 // all there is
init x 2 init yy 0
thread {
  a = load acq x; b = a + 1 - (2 == a); store rel x b < 2;
  c = add acqrel x a; d = cas rlx x 0, c + 1;
  fence sc;
  if a - b { if 0 { } else { e = 1; } } else { f = ((1)); }
}
thread { }
thread { g = 0; }
forall not 0:a == 1 and (x == 2 or 1:b == 0) or not not x == 0
`
)

func num(n int) api.Expr           { return api.Expr{Op: api.Num, N: n} }
func reg(s string) api.Expr        { return api.Expr{Op: api.Reg, Name: s} }
func plus(a, b api.Expr) api.Expr  { return api.Expr{Op: api.Plus, Kids: []api.Expr{a, b}} }
func minus(a, b api.Expr) api.Expr { return api.Expr{Op: api.Minus, Kids: []api.Expr{a, b}} }
func eq(a, b api.Expr) api.Expr    { return api.Expr{Op: api.Eq, Kids: []api.Expr{a, b}} }
func less(a, b api.Expr) api.Expr  { return api.Expr{Op: api.Less, Kids: []api.Expr{a, b}} }

func args(l ...api.Expr) []api.Expr { return l }

func mem(x string, n int) api.Cond { return api.Cond{Op: api.Mem, Name: x, N: n} }
func regIs(thread int, r string, n int) api.Cond {
	return api.Cond{Op: api.RegIs, Thread: thread, Name: r, N: n}
}
func not(k api.Cond) api.Cond    { return api.Cond{Op: api.Not, Kids: []api.Cond{k}} }
func and(a, b api.Cond) api.Cond { return api.Cond{Op: api.And, Kids: []api.Cond{a, b}} }
func or(a, b api.Cond) api.Cond  { return api.Cond{Op: api.Or, Kids: []api.Cond{a, b}} }

// plain puts nil where an empty list is, all the way down, as both are one.
func plain(v reflect.Value) {
	switch v.Kind() {
	case reflect.Struct:
		for i := range v.NumField() {
			plain(v.Field(i))
		}
	case reflect.Slice:
		if v.Len() == 0 {
			v.SetZero()
		}
		for i := range v.Len() {
			plain(v.Index(i))
		}
	}
}

func same(a, b api.Prog) bool {
	plain(reflect.ValueOf(&a).Elem())
	plain(reflect.ValueOf(&b).Elem())
	return reflect.DeepEqual(a, b)
}

func wantProg(t *testing.T, text string, want api.Prog) {
	t.Helper()
	got, f := Parse(text)
	if f != (api.Fault{}) || !same(got, want) {
		t.Errorf("Parse(%.200q) = %v, %v, not %v", text, got, f, want)
	}
	if _, f := Places(text); f != (api.Fault{}) {
		t.Errorf("Places(%.200q): %v", text, f)
	}
}

func wantFault(t *testing.T, text string, want api.Fault) {
	t.Helper()
	p, f := Parse(text)
	l, g := Places(text)
	if f != want || g != want {
		t.Errorf("%.200q is refused by %v, %v, not %v", text, f, g, want)
	}
	if want.Err != api.OK && (!reflect.ValueOf(p).IsZero() || len(l) != 0) {
		t.Errorf("%.200q is refused, but beside that %v, %v are told", text, p, l)
	}
}

// wantRefused takes a text with ^ ahead of the token that is refused.
func wantRefused(t *testing.T, marked string) {
	t.Helper()
	at := strings.IndexByte(marked, '^')
	if at < 0 {
		t.Fatalf("no mark in %q", marked)
	}
	wantFault(t, marked[:at]+marked[at+1:], api.Fault{Err: api.ErrForm, At: at})
}

func wantStmts(t *testing.T, text string, want ...api.Stmt) {
	t.Helper()
	wantProg(t, head+"thread { "+text+" }"+tail, api.Prog{Name: "a", Vals: 2, Threads: [][]api.Stmt{want}, Ask: api.Exists, Cond: mem("x", 1)})
}

func wantExpr(t *testing.T, text string, e api.Expr) {
	t.Helper()
	wantStmts(t, "r = "+text+";", api.Stmt{Kind: api.Set, Reg: "r", Args: args(e)})
	wantStmts(t, "store rlx y "+text+";", api.Stmt{Kind: api.Store, Loc: "y", Args: args(e)})
	wantStmts(t, "r = add rlx y "+text+";", api.Stmt{Kind: api.Add, Reg: "r", Loc: "y", Args: args(e)})
	wantStmts(t, "r = cas rlx y "+text+", 7;", api.Stmt{Kind: api.Cas, Reg: "r", Loc: "y", Args: args(e, num(7))})
	wantStmts(t, "r = cas rlx y 7, "+text+";", api.Stmt{Kind: api.Cas, Reg: "r", Loc: "y", Args: args(num(7), e)})
	wantStmts(t, "if "+text+" { }", api.Stmt{Kind: api.If, Args: args(e)})
}

func wantCond(t *testing.T, text string, k api.Cond) {
	t.Helper()
	wantProg(t, head+"exists "+text, api.Prog{Name: "a", Vals: 2, Ask: api.Exists, Cond: k})
	wantProg(t, head+"forall "+text, api.Prog{Name: "a", Vals: 2, Ask: api.Forall, Cond: k})
}

func TestOrdinaryProgram(t *testing.T) {
	want := api.Prog{
		Name: "a", Vals: 3, Init: []api.Cell{{Loc: "x", N: 2}, {Loc: "yy"}}, Ask: api.Forall,
		Threads: [][]api.Stmt{{
			{Kind: api.Load, Mode: api.Acq, Reg: "a", Loc: "x"},
			{Kind: api.Set, Reg: "b", Args: args(minus(plus(reg("a"), num(1)), eq(num(2), reg("a"))))},
			{Kind: api.Store, Mode: api.Rel, Loc: "x", Args: args(less(reg("b"), num(2)))},
			{Kind: api.Add, Mode: api.AcqRel, Reg: "c", Loc: "x", Args: args(reg("a"))},
			{Kind: api.Cas, Mode: api.Rlx, Reg: "d", Loc: "x", Args: args(num(0), plus(reg("c"), num(1)))},
			{Kind: api.Fence, Mode: api.Sc},
			{Kind: api.If, Args: args(minus(reg("a"), reg("b"))),
				Then: []api.Stmt{{Kind: api.If, Args: args(num(0)), Else: []api.Stmt{{Kind: api.Set, Reg: "e", Args: args(num(1))}}}},
				Else: []api.Stmt{{Kind: api.Set, Reg: "f", Args: args(num(1))}}},
		}, nil, {{Kind: api.Set, Reg: "g", Args: args(num(0))}}},
		Cond: or(and(not(regIs(0, "a", 1)), or(mem("x", 2), regIs(1, "b", 0))), not(not(mem("x", 0)))),
	}
	wantProg(t, full, want)
}

func TestExample(t *testing.T) {
	const text = "litmus a values 2 init x 0 thread { store sc x 1; r = load sc x; } exists 0:r == 1"
	wantProg(t, text, api.Prog{
		Name: "a", Vals: 2, Init: []api.Cell{{Loc: "x"}}, Ask: api.Exists, Cond: regIs(0, "r", 1),
		Threads: [][]api.Stmt{{
			{Kind: api.Store, Mode: api.Sc, Loc: "x", Args: args(num(1))},
			{Kind: api.Load, Mode: api.Sc, Reg: "r", Loc: "x"},
		}},
	})
	if l, _ := Places(text); !slices.Equal(l, []int{0, 18, 36, 50, 67}) {
		t.Errorf("its parts begin at %v", l)
	}
}

func TestHeads(t *testing.T) {
	base := api.Prog{Name: "a", Vals: 2, Ask: api.Exists, Cond: mem("x", 1)}
	wantProg(t, head+tail, base)
	wantProg(t, "litmus a values 2 exists x==1", base)
	wantProg(t, "litmus a values 2exists x==1", base)
	for _, n := range []struct {
		text string
		n    int
	}{{"0", 0}, {"1", 1}, {"004", 4}, {"999", 999}, {most, api.MaxNum}} {
		p := base
		p.Vals, p.Init, p.Cond = n.n, []api.Cell{{Loc: "y", N: n.n}}, regIs(n.n, "r", n.n)
		wantProg(t, "litmus a values "+n.text+" init y "+n.text+" exists "+n.text+":r == "+n.text, p)
	}
	p := base
	p.Init = []api.Cell{{Loc: "x", N: 1}, {Loc: "y"}, {Loc: "x", N: 5}, {Loc: "a", N: 3}, {Loc: "z", N: 2}}
	wantProg(t, head+"init x 1 init y 0 init x 5 init a 3 init z 2"+tail, p)
	p.Threads = [][]api.Stmt{nil}
	wantProg(t, head+"init x 1 init y 0 init x 5 init a 3 init z 2 thread { }"+tail, p)
	p = base
	p.Threads = [][]api.Stmt{nil, nil, {{Kind: api.Fence, Mode: api.Acq}}, nil, nil, {{Kind: api.Fence}, {Kind: api.Fence, Mode: api.Rel}}}
	wantProg(t, head+"thread{}thread{}thread{fence acq;}thread{}thread { } thread{fence rlx;fence rel;}"+tail, p)
	p = base
	p.Ask = api.Forall
	wantProg(t, head+"forall x == 1", p)
}

func TestKindsAndModes(t *testing.T) {
	for mode, m := range []string{api.Rlx: "rlx", api.Acq: "acq", api.Rel: "rel", api.AcqRel: "acqrel", api.Sc: "sc"} {
		wantStmts(t, "r = load "+m+" x;", api.Stmt{Kind: api.Load, Mode: mode, Reg: "r", Loc: "x"})
		wantStmts(t, "store "+m+" x 1;", api.Stmt{Kind: api.Store, Mode: mode, Loc: "x", Args: args(num(1))})
		wantStmts(t, "r = add "+m+" x 1;", api.Stmt{Kind: api.Add, Mode: mode, Reg: "r", Loc: "x", Args: args(num(1))})
		wantStmts(t, "r = cas "+m+" x 1, 2;", api.Stmt{Kind: api.Cas, Mode: mode, Reg: "r", Loc: "x", Args: args(num(1), num(2))})
		wantStmts(t, "fence "+m+";", api.Stmt{Kind: api.Fence, Mode: mode})
	}
	wantStmts(t, "r = 1;", api.Stmt{Kind: api.Set, Reg: "r", Args: args(num(1))})
	wantStmts(t, "r = s;", api.Stmt{Kind: api.Set, Reg: "r", Args: args(reg("s"))})
	wantStmts(t, "")
	fence := api.Stmt{Kind: api.Fence, Mode: api.Sc}
	wantStmts(t, "fence sc; fence sc; fence sc;", fence, fence, fence)
}

func TestIfs(t *testing.T) {
	set := func(r string) api.Stmt { return api.Stmt{Kind: api.Set, Reg: r, Args: args(num(0))} }
	when := func(then, other []api.Stmt) api.Stmt {
		return api.Stmt{Kind: api.If, Args: args(reg("c")), Then: then, Else: other}
	}
	list := func(l ...api.Stmt) []api.Stmt { return l }
	wantStmts(t, "if c { }", when(nil, nil))
	wantStmts(t, "if c { } else { }", when(nil, nil))
	wantStmts(t, "if c { p = 0; }", when(list(set("p")), nil))
	wantStmts(t, "if c { } else { q = 0; }", when(nil, list(set("q"))))
	wantStmts(t, "if c { p = 0; } else { }", when(list(set("p")), nil))
	wantStmts(t, "if c { p = 0; q = 0; } else { r = 0; s = 0; }", when(list(set("p"), set("q")), list(set("r"), set("s"))))
	wantStmts(t, "if c { } p = 0; if c { } else { } q = 0;", when(nil, nil), set("p"), when(nil, nil), set("q"))
	wantStmts(t, "if c { if c { p = 0; } else { q = 0; } }", when(list(when(list(set("p")), list(set("q")))), nil))
	wantStmts(t, "if c { if c { p = 0; } } else { q = 0; }", when(list(when(list(set("p")), nil)), list(set("q"))))
	wantStmts(t, "if c { } else { if c { } else { if c { } p = 0; } q = 0; }", when(nil, list(when(nil, list(when(nil, nil), set("p"))), set("q"))))
	wantRefused(t, head+"thread { if c { } else ^if c { } }"+tail)
	wantRefused(t, head+"thread { if c { }^; }"+tail)
	wantRefused(t, head+"thread { if c { } else { } ^else { } }"+tail)
	wantRefused(t, head+"thread { if ^{ } }"+tail)
	wantRefused(t, head+"thread { if c ^} }"+tail)
	wantRefused(t, head+"thread { if c ^else { } }"+tail)
	wantRefused(t, head+"thread { p = 0; ^else { } }"+tail)
	wantRefused(t, head+"thread { if ^load sc x { } }"+tail)
}

func TestExpressions(t *testing.T) {
	a, b, c, one := reg("a"), reg("b"), reg("c"), num(1)
	for _, k := range []struct {
		text string
		e    api.Expr
	}{
		{"0", num(0)}, {"1", one}, {"007", num(7)}, {most, num(api.MaxNum)}, {"a", a},
		{"(a)", a}, {"((1))", one}, {"(((a)))", a},
		{"a + b", plus(a, b)}, {"a - b", minus(a, b)}, {"a+1", plus(a, one)}, {"(a - b)", minus(a, b)},
		{"a + b + c", plus(plus(a, b), c)},
		{"a - b - c", minus(minus(a, b), c)},
		{"a + b - c", minus(plus(a, b), c)},
		{"a - b + c", plus(minus(a, b), c)},
		{"a - b - c - 1 + a", plus(minus(minus(minus(a, b), c), one), a)},
		{"a - (b - c)", minus(a, minus(b, c))},
		{"a + (b - c) + 1", plus(plus(a, minus(b, c)), one)},
		{"(a - b) - c", minus(minus(a, b), c)},
		{"a == b", eq(a, b)}, {"a < b", less(a, b)}, {"1 == 1", eq(one, one)},
		{"a + b == c", eq(plus(a, b), c)},
		{"a == b + c", eq(a, plus(b, c))},
		{"a + b < c - 1", less(plus(a, b), minus(c, one))},
		{"a - b - c == a + b + c", eq(minus(minus(a, b), c), plus(plus(a, b), c))},
		{"a + (b == c)", plus(a, eq(b, c))},
		{"(a < b) - c", minus(less(a, b), c)},
		{"(a == b) == c", eq(eq(a, b), c)},
		{"a < (b < c)", less(a, less(b, c))},
		{"(a < b) == (b < a)", eq(less(a, b), less(b, a))},
		{"((a) + ((b)) < (1))", less(plus(a, b), one)},
	} {
		wantExpr(t, k.text, k.e)
	}
}

func TestNoExpressions(t *testing.T) {
	for _, e := range []string{
		"a == b ^== c", "a < b ^< c", "a == b ^< c", "a < b ^== c", "a + b == c - 1 ^== 1", "(a == b ^== c)",
		"^-1", "^+ a", "a + ^+ b", "a - ^- b", "a + ^- b", "a - ^+ b", "a + ^== b", "a == ^== b", "a == ^< b", "^== a", "^< a",
		"(^)", "(a ^;", "(a + ^)", "a ^)", "(a^,", "((a) ^;", "^)", "a ^( b", "a ^b", "a ^1", "1 ^a", "1 ^1", "1^a", "(a) ^(b)", "(a) ^b",
		"a ^= b", "a ==^= b", "a ^: b", "^not a", "a ^and b", "a ^or b", "(^load sc x)", "1 + ^load sc x", "a + ^rlx", "^{", "^}", "(^;", "a +^;", "a ==^;", "a <^;",
	} {
		wantRefused(t, head+"thread { r = "+e+"; }"+tail)
		wantRefused(t, head+"thread { store sc x "+e+"; }"+tail)
		wantRefused(t, head+"thread { r = add sc x "+e+"; }"+tail)
		wantRefused(t, head+"thread { r = cas sc x 1, "+e+"; }"+tail)
		wantRefused(t, head+"thread { r = cas sc x "+e+", 1; }"+tail)
	}
}

func TestConditions(t *testing.T) {
	p, q, r, s := mem("p", 1), mem("q", 2), regIs(0, "r", 3), regIs(1, "s", 4)
	const P, Q, R, S = "p == 1", "q == 2", "0:r == 3", "1 : s==4"
	for _, k := range []struct {
		text string
		k    api.Cond
	}{
		{P, p}, {R, r}, {S, s}, {"(" + P + ")", p}, {"((" + R + "))", r},
		{"17:x == 0", regIs(17, "x", 0)}, {most + ":x == " + most, regIs(api.MaxNum, "x", api.MaxNum)},
		{"not " + P, not(p)}, {"not not " + R, not(not(r))}, {"not not not " + P, not(not(not(p)))},
		{"not (" + P + ")", not(p)}, {"not (not (" + P + "))", not(not(p))}, {"(not " + P + ")", not(p)},
		{P + " and " + Q, and(p, q)}, {P + " or " + Q, or(p, q)},
		{P + " and " + Q + " and " + R, and(and(p, q), r)},
		{P + " or " + Q + " or " + R, or(or(p, q), r)},
		{P + " and " + Q + " and " + R + " and " + S, and(and(and(p, q), r), s)},
		{P + " or " + Q + " or " + R + " or " + S, or(or(or(p, q), r), s)},
		{P + " and (" + Q + " and " + R + ")", and(p, and(q, r))},
		{P + " or (" + Q + " or " + R + ")", or(p, or(q, r))},
		{P + " and " + Q + " or " + R, or(and(p, q), r)},
		{P + " or " + Q + " and " + R, or(p, and(q, r))},
		{P + " or " + Q + " and " + R + " or " + S, or(or(p, and(q, r)), s)},
		{P + " and " + Q + " or " + R + " and " + S, or(and(p, q), and(r, s))},
		{"(" + P + " or " + Q + ") and " + R, and(or(p, q), r)},
		{P + " and (" + Q + " or " + R + ")", and(p, or(q, r))},
		{"not " + P + " and " + Q, and(not(p), q)},
		{"not " + P + " or " + Q, or(not(p), q)},
		{P + " and not " + Q, and(p, not(q))},
		{P + " or not not " + Q + " and not " + R, or(p, and(not(not(q)), not(r)))},
		{"not (" + P + " and " + Q + ")", not(and(p, q))},
		{"not (" + P + " or " + Q + ") and " + R, and(not(or(p, q)), r)},
	} {
		wantCond(t, k.text, k.k)
	}
}

func TestNoConditions(t *testing.T) {
	for _, k := range []string{
		"^", "x ^", "x == ^", "not ^", "(^", "(x == 1 ^", "0 ^", "0: ^", "0:r ^", "0:r == ^", "x == 1 and ^", "x == 1 or ^", "not not ^",
		"x ^= 1", "x ^< 1", "x ^1", "x ^+ 1 == 2", "x == ^y", "x == ^-1", "x == ^(1)", "x ==^= 1", "x == 0^:r", "x == 1 ^+ 1", "x == 1 ^== 1", "x == 1 ^< 1",
		"0 ^== 1", "1 ^r == 1", "0:^0 == 1", "0:^(r == 1)", "0:^not r == 1", "r^:0 == 1", "x^:r == 1", "0:^0:r == 1", "0^;r == 1", "0^=r == 1", "0:^:r == 1",
		"x == 1 and ^or y == 1", "x == 1 or ^and y == 1", "x == 1 and ^and y == 1", "^and x == 1", "^or x == 1", "x == 1 ^not y == 1", "x == 1 ^not",
		"(^)", "((x == 1) ^", "(x == 1) ^)", "x == 1 ^)", "(x ^) == 1", "(0 ^):r == 1", "not ^and", "not ^== 1", "x == 1 ^x == 1", "x == 1 ^(y == 1)", "(x == 1) ^(y == 1)", "(x == 1) ^1", "(x == 1) ^== 1",
		"^exists x == 1", "^forall x == 1", "x == 1 ^exists x == 1", "x == 1 ^forall x == 1", "^;", "^=", "^==", "^{", "^:r == 1", "^sc == 1", "0:^load == 1",
	} {
		wantRefused(t, head+"exists "+k)
		wantRefused(t, head+"init x 0 thread { r = 1; } forall "+k)
	}
}

func TestBehindTheQuestion(t *testing.T) {
	for _, s := range []string{"x", "1", ";", "}", "{", "{ }", ")", "init x 0", "thread { }", "exists x == 1", "forall x == 1", "litmus a values 2 exists x == 1", "not", "=", "==", "+ 1", ":", ",", "sc", "else { }", "values"} {
		wantRefused(t, head+"exists x == 1 ^"+s)
		wantRefused(t, head+"thread { } forall (x == 1 and 0:r == 2) // remark\n ^"+s)
		wantRefused(t, head+"exists not x == 1 ^"+s+" and y == 1")
	}
	wantProg(t, head+"exists x == 1 // thread { }", api.Prog{Name: "a", Vals: 2, Ask: api.Exists, Cond: mem("x", 1)})
}

// nameHoles are texts with $ where a name is asked, each with a part of the grammar ahead of it that no other has.
func nameHoles() []string {
	return []string{
		"litmus $ values 2" + tail,
		head + "init $ 0" + tail,
		head + "thread { $ = 1; }" + tail,
		head + "thread { fence sc; $ = 1; }" + tail,
		head + "thread { if 1 { $ = 1; } }" + tail,
		head + "thread { if 1 { } $ = 1; }" + tail,
		head + "thread { if 1 { } else { $ = 1; } }" + tail,
		head + "thread { r = $; }" + tail,
		head + "thread { r = 1 + $; }" + tail,
		head + "thread { r = 1 - $; }" + tail,
		head + "thread { r = 1 == $; }" + tail,
		head + "thread { r = ($); }" + tail,
		head + "thread { r = load sc $; }" + tail,
		head + "thread { r = add sc $ 1; }" + tail,
		head + "thread { r = add sc x $; }" + tail,
		head + "thread { r = cas sc $ 1, 1; }" + tail,
		head + "thread { r = cas sc x $, 1; }" + tail,
		head + "thread { r = cas sc x 1, $; }" + tail,
		head + "thread { store sc $ 1; }" + tail,
		head + "thread { store sc x $; }" + tail,
		head + "thread { if $ { } }" + tail,
		head + "exists $ == 1",
		head + "exists 0:$ == 1",
		head + "exists not $ == 1",
		head + "exists ($ == 1)",
		head + "exists x == 1 and $ == 1",
		head + "exists x == 1 or 0:$ == 1",
	}
}

func keywords() []string {
	return strings.Fields("litmus values init thread load add cas store fence if else exists forall and or not rlx acq rel acqrel sc")
}

func filled(hole, with string) (text string, at int) {
	return strings.Replace(hole, "$", with, 1), strings.IndexByte(hole, '$')
}

// names are all the names that a program has, in whichever order.
func names(p api.Prog) string {
	var l []string
	var walk func(v reflect.Value)
	walk = func(v reflect.Value) {
		switch v.Kind() {
		case reflect.String:
			l = append(l, v.String())
		case reflect.Struct:
			for i := range v.NumField() {
				walk(v.Field(i))
			}
		case reflect.Slice:
			for i := range v.Len() {
				walk(v.Index(i))
			}
		}
	}
	walk(reflect.ValueOf(p))
	return " " + strings.Join(l, " ") + " "
}

func TestNames(t *testing.T) {
	m := newRecognizer()
	for _, hole := range nameHoles() {
		for _, s := range []string{"a", "Z9", "abcdefgh", "abcdefghi", strings.Repeat("n", 300), "Load", "SC", "scs", "i", "ifs", "exist", "acqrelacq", "END", "NAME"} {
			text, _ := filled(hole, s)
			p, f := Parse(text)
			if f != (api.Fault{}) || !strings.Contains(names(p), " "+s+" ") {
				t.Errorf("%.200q: %v, %v", text, p, f)
			}
		}
		for _, s := range append(keywords(), ";", "=", ")", ":", ",", "{") {
			text, at := filled(hole, s)
			want := m.faultOf(text)
			// Where a statement or a condition may begin, some keywords go on; what is behind them does not.
			if want.At < at || want.Err != api.ErrForm {
				t.Errorf("%q: the model says %v", text, want)
			}
			wantFault(t, text, want)
		}
	}
}

func TestNamesThatAreKeywords(t *testing.T) {
	for _, k := range keywords() {
		wantRefused(t, "litmus ^"+k+" values 2"+tail)
		wantRefused(t, head+"init ^"+k+" 0"+tail)
		wantRefused(t, head+"thread { r = load sc ^"+k+"; }"+tail)
		wantRefused(t, head+"thread { store sc ^"+k+" 1; }"+tail)
		wantRefused(t, head+"thread { r = add sc ^"+k+" 1; }"+tail)
		wantRefused(t, head+"thread { r = cas sc ^"+k+" 1, 1; }"+tail)
		wantRefused(t, head+"thread { r = 1 + ^"+k+"; }"+tail)
		wantRefused(t, head+"thread { if ^"+k+" { } }"+tail)
		wantRefused(t, head+"exists 0:^"+k+" == 1")
		if !slices.Contains([]string{"store", "fence", "if"}, k) {
			wantRefused(t, head+"thread { ^"+k+" = 1; }"+tail)
		}
		if !slices.Contains([]string{"load", "add", "cas"}, k) {
			wantRefused(t, head+"thread { r = ^"+k+"; }"+tail)
		}
		if k != "not" {
			wantRefused(t, head+"exists ^"+k+" == 1")
		}
	}
}

func TestNumbersAndNamesInEachOthersPlace(t *testing.T) {
	for _, text := range []string{
		"litmus ^1 values 2" + tail, "litmus a values ^b" + tail, "litmus a values ^values" + tail, "litmus a values ^(2)" + tail, "litmus a values ^-2" + tail,
		head + "init ^1 0" + tail, head + "init x ^y" + tail, head + "init x ^init y 0" + tail, head + "init x ^= 1" + tail, head + "init x ^-1" + tail, head + "init x 0^; init y 0" + tail,
		head + "thread { ^1 = r; }" + tail, head + "thread { r = load sc ^1; }" + tail, head + "thread { r = load ^1 x; }" + tail,
		head + "thread { store sc ^1 1; }" + tail, head + "thread { store ^1 x 1; }" + tail, head + "thread { store ^x 1; }" + tail,
		head + "thread { r = add sc ^1 1; }" + tail, head + "thread { r = cas sc ^1 1, 1; }" + tail,
		head + "thread { fence ^1; }" + tail, head + "thread { fence ^x; }" + tail, head + "thread { fence^; }" + tail, head + "thread { fence sc ^x; }" + tail, head + "thread { fence sc ^sc; }" + tail, head + "thread { fence ^SC; }" + tail, head + "thread { fence ^load; }" + tail,
		head + "exists r^:0 == 1", head + "exists x == ^x", head + "exists 0:^1 == 1", head + "exists 0:x == ^y",
	} {
		wantRefused(t, text)
	}
}

func TestStatementsThatAreNone(t *testing.T) {
	for _, s := range []string{
		"r ^;", "r ^== 1;", "r ^1;", "r^: 1;", "r = ^;", "r = 1 ^}", "r = 1 ^r = 1;", "r = 1^, 2;", "^;", "r = 1; ^;", "^{ }", "^= 1;", "^(r) = 1;", "r ^+ 1;", "r = r ^= 1;",
		"r = load ^x;", "r = load sc^;", "r = load sc x ^1;", "r = load sc x ^+ 1;", "^load sc x;", "r = (^load sc x);", "r = load ^;", "r = load sc ^sc x;", "r = load sc x ^x;", "r = load sc x^, 1;",
		"store sc x^;", "store sc x 1^, 2;", "store sc x ^= 1;", "r = ^store sc x 1;", "store sc ^;", "store ^;", "store sc x 1 ^}", "store sc x ^load sc x;",
		"r = add sc x^;", "r = add sc x 1^, 1;", "^add sc x 1;", "r = add ^x 1;", "r = add sc x ^cas;",
		"r = cas sc x 1^;", "r = cas sc x^;", "r = cas sc x 1, ^;", "r = cas sc x ^, 1;", "r = cas sc x 1, 2^, 3;", "r = cas sc x 1 ^2;", "^cas sc x 1, 2;", "r = cas ^x 1, 2;",
		"fence sc ^}", "r = ^fence sc;", "^thread { }", "^init x 0", "^exists x == 1", "^sc", "^1;", "^not r;",
	} {
		wantRefused(t, head+"thread { "+s+" }"+tail)
		wantRefused(t, head+"thread { if 1 { } else { "+s+" } }"+tail)
	}
	for _, s := range []string{"thread ^r = 1; }", "thread ^}", "thread { } ^}", "thread { ^{ } }", "thread { } ^init x 0", "thread { } ^r = 1;", "thread { } ^else { }", "thread ^thread { }", "thread ^a { }", "^{ }", "^r = 1;", "^fence sc;", "thread { ^exists"} {
		wantRefused(t, head+s+tail)
	}
}

func TestHeadsThatAreNone(t *testing.T) {
	for _, s := range []string{
		"^", " ^", "// litmus a values 2 exists x == 1\n^", "litmus^", "litmus ^values 2", "litmus a^", "litmus a values^", "litmus a values 2^",
		"^a values 2" + tail, "^values 2" + tail, "^exists x == 1", "^thread { }" + tail, "^Litmus a values 2" + tail, "^litmusa values 2" + tail, "^1" + tail, "^;" + tail, "   ^a",
		"litmus ^litmus a values 2" + tail, "litmus a ^a values 2" + tail, "litmus a ^2" + tail, "litmus a ^value 2" + tail, "litmus a ^vals 2" + tail, "litmus a ^init x 0 values 2" + tail, "litmus a values 2 ^2" + tail, "litmus a values 2^x" + tail, "litmus a values 2 ^values 2" + tail, "litmus a values ^exists x == 1", "litmus a values 2 ^x == 1", "litmus a values 2 ^;" + tail, "litmus a values 2 ^not x == 1", "litmus a values 2 ^Exists x == 1",
		head + "init^", head + "init x^", head + "init ^exists x == 1", head + "init x ^exists x == 1", head + "init x 0 ^1" + tail, head + "init x 0 ^x 0" + tail, head + "init ^init x 0" + tail,
	} {
		wantRefused(t, s)
	}
}

func TestNoBytes(t *testing.T) {
	wantFault(t, "", api.Fault{Err: api.ErrForm})
	wantFault(t, " \n\t", api.Fault{Err: api.ErrForm, At: 3})
	wantFault(t, "//", api.Fault{Err: api.ErrForm, At: 2})
}

// Lex's faults come first, even behind a token that may not follow.
func TestFaultsOfLexComeFirst(t *testing.T) {
	wantFault(t, "exists exists ?", api.Fault{Err: api.ErrForm, At: 14})
	wantFault(t, "?", api.Fault{Err: api.ErrForm})
	wantFault(t, "litmus a values "+over+tail, api.Fault{Err: api.ErrLong, At: 16})
	wantFault(t, "1 1 1 "+over, api.Fault{Err: api.ErrLong, At: 6})
	wantFault(t, full+" "+over+" ?", api.Fault{Err: api.ErrLong, At: len(full) + 1})
	wantFault(t, full+"? "+over, api.Fault{Err: api.ErrForm, At: len(full)})
	wantFault(t, full+strings.Repeat(" ", api.MaxText), api.Fault{Err: api.ErrLong})
	wantFault(t, strings.Repeat("a", api.MaxText+1), api.Fault{Err: api.ErrLong})
	wantFault(t, "?"+strings.Repeat("a", api.MaxText), api.Fault{Err: api.ErrLong})
	tokens, _ := lex.Lex(full)
	for _, k := range tokens {
		for _, bad := range []string{" ? ", " _ ", " / ", " \x00 ", " \u00e9 "} {
			wantFault(t, full[:k.At]+bad+full[k.At:], api.Fault{Err: api.ErrForm, At: k.At + 1})
			wantFault(t, "; "+full[:k.At]+bad+full[k.At:], api.Fault{Err: api.ErrForm, At: k.At + 3})
		}
		wantFault(t, "; "+full[:k.At]+" "+over+" "+full[k.At:], api.Fault{Err: api.ErrLong, At: k.At + 3})
	}
}

func TestGreatTexts(t *testing.T) {
	fill := func(s string) string { return s + strings.Repeat(" ", api.MaxText-len(s)) }
	wantProg(t, fill(head+tail), api.Prog{Name: "a", Vals: 2, Ask: api.Exists, Cond: mem("x", 1)})
	wantFault(t, fill(head+tail)+" ", api.Fault{Err: api.ErrLong})
	wantFault(t, fill(head), api.Fault{Err: api.ErrForm, At: api.MaxText})
	for _, c := range []struct{ ahead, open, middle, shut, behind string }{
		{head + "exists ", "not ", "x == 1", "", ""},
		{head + "exists ", "(", "x == 1", ")", ""},
		{head + "exists ", "", "x==1", " or x==1", ""},
		{head + "exists ", "", "x==1", " and x==1", ""},
		{head + "exists ", "not (", "x==1", ")", ""},
		{head + "thread { r = ", "(", "1", ")", "; }" + tail},
		{head + "thread { r = ", "", "1", "-1", "; }" + tail},
		{head + "thread { r = ", "1+(", "1", "<1)", "; }" + tail},
		{head + "thread { ", "if 1 {", "", "}", "}" + tail},
		{head + "thread { ", "if 1 { } else {", "", "}", "}" + tail},
		{head + "thread { ", "", "", "fence sc;", "}" + tail},
		{head, "", "", "thread{}", tail},
		{head, "", "", "init x 0 ", tail},
	} {
		n := (api.MaxText - len(c.ahead+c.middle+c.behind)) / len(c.open+c.shut)
		text := c.ahead + strings.Repeat(c.open, n) + c.middle + strings.Repeat(c.shut, n) + c.behind
		if _, f := Parse(text); f != (api.Fault{}) {
			t.Errorf("%.60q..: %v", text, f)
		}
		if l, f := Places(text); f != (api.Fault{}) || len(l) < 2 {
			t.Errorf("%.60q..: %v", text, f)
		}
		if c.open != "" && c.shut != "" {
			text = c.ahead + strings.Repeat(c.open, n)
			wantFault(t, text, api.Fault{Err: api.ErrForm, At: len(text)})
		}
	}
}
