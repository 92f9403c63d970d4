package show

import (
	"strconv"
	"strings"
	"testing"

	"withe/api"
)

func num(n int) api.Expr                     { return api.Expr{Op: api.Num, N: n} }
func reg(s string) api.Expr                  { return api.Expr{Op: api.Reg, Name: s} }
func sign(op int, kids ...api.Expr) api.Expr { return api.Expr{Op: op, Kids: kids} }
func mem(x string, n int) api.Cond           { return api.Cond{Op: api.Mem, Name: x, N: n} }
func join(op int, kids ...api.Cond) api.Cond { return api.Cond{Op: op, Kids: kids} }
func args(l ...api.Expr) []api.Expr          { return l }
func when(then, other []api.Stmt) api.Stmt {
	return api.Stmt{Kind: api.If, Args: args(num(1)), Then: then, Else: other}
}
func stmts(l ...api.Stmt) []api.Stmt { return l }
func fenceOf(m int) api.Stmt         { return api.Stmt{Kind: api.Fence, Mode: m} }
func regIs(thread int, r string, n int) api.Cond {
	return api.Cond{Op: api.RegIs, Thread: thread, Name: r, N: n}
}

func want(t *testing.T, got, text string) {
	t.Helper()
	if got != text {
		t.Errorf("shown as %q, not as %q", got, text)
	}
}

// noKinds are numbers that are no Op and no Kind of anything.
func noKinds() []int {
	l := []int{0, 8, 9, 100, 255, 256, 257, 1 << 32, 1<<32 + 1, 1 << 62, 1<<63 - 1, -1 << 63}
	for i := 1; i < 20; i++ {
		l = append(l, -i)
	}
	return l
}

func TestMode(t *testing.T) {
	for _, c := range []struct {
		mode int
		text string
	}{{api.Rlx, "rlx"}, {api.Acq, "acq"}, {api.Rel, "rel"}, {api.AcqRel, "acqrel"}, {api.Sc, "sc"}} {
		want(t, Mode(c.mode), c.text)
	}
	for m := -300; m <= 300; m++ {
		want(t, Mode(m), modelMode(m))
	}
	for _, m := range []int{1 << 8, 1 << 32, 1<<32 + 2, 1 << 62, 1<<63 - 1, -1 << 63, -1<<63 + 4} {
		want(t, Mode(m), "")
	}
}

func TestNumbers(t *testing.T) {
	for _, c := range []struct {
		n    int
		text string
	}{
		{0, "0"}, {1, "1"}, {9, "9"}, {10, "10"}, {1234567890, "1234567890"}, {-1, "-1"}, {-10, "-10"}, {-987654321, "-987654321"},
		{api.MaxNum, "4611686018427387904"}, {1<<63 - 1, "9223372036854775807"}, {-1 << 63, "-9223372036854775808"},
	} {
		want(t, Expr(num(c.n)), c.text)
		want(t, Expr(sign(api.Minus, num(c.n), num(c.n))), "("+c.text+" - "+c.text+")")
		want(t, Cond(mem("x", c.n)), "x == "+c.text)
		want(t, Cond(regIs(c.n, "r", 0)), c.text+":r == 0")
		want(t, Cond(regIs(0, "r", c.n)), "0:r == "+c.text)
		want(t, Prog(api.Prog{Name: "a", Vals: c.n, Ask: 1, Cond: mem("x", 1)}), "litmus a values "+c.text+"\nexists x == 1\n")
		want(t, Prog(api.Prog{Name: "a", Init: []api.Cell{{Loc: "x", N: c.n}}, Ask: 1, Cond: mem("x", 1)}), "litmus a values 0\ninit x "+c.text+"\nexists x == 1\n")
	}
	for n := -1100; n <= 1100; n++ {
		want(t, Expr(num(n)), strconv.FormatInt(int64(n), 10))
	}
}

// Names stand as they are, whichever bytes they have.
func TestNames(t *testing.T) {
	for _, s := range []string{"", "r", "R2d2", "load", "a b", "\n", "{", "é", "\xff\x00", "%d", "(r + 1)", strings.Repeat("n", 300)} {
		want(t, Expr(reg(s)), s)
		want(t, Expr(sign(api.Less, reg(s), reg(s))), "("+s+" < "+s+")")
		want(t, Cond(mem(s, 1)), s+" == 1")
		want(t, Cond(regIs(2, s, 1)), "2:"+s+" == 1")
		p := api.Prog{Name: s, Init: []api.Cell{{Loc: s}}, Ask: api.Forall, Cond: mem(s, 0)}
		p.Threads = [][]api.Stmt{{
			{Kind: api.Set, Reg: s, Args: args(reg(s))}, {Kind: api.Load, Reg: s, Loc: s}, {Kind: api.Store, Loc: s, Args: args(num(1))},
			{Kind: api.Add, Reg: s, Loc: s, Args: args(num(1))}, {Kind: api.Cas, Reg: s, Loc: s, Args: args(num(1), reg(s))},
		}}
		text := "litmus $ values 0\ninit $ 0\nthread {\n  $ = $;\n  $ = load rlx $;\n  store rlx $ 1;\n  $ = add rlx $ 1;\n  $ = cas rlx $ 1, $;\n}\nforall $ == 0\n"
		want(t, Prog(p), strings.ReplaceAll(text, "$", s))
	}
}

func TestExpr(t *testing.T) {
	r, s, one := reg("r"), reg("s"), num(1)
	for _, c := range []struct {
		e    api.Expr
		text string
	}{
		{r, "r"}, {one, "1"},
		{sign(api.Plus, r, one), "(r + 1)"}, {sign(api.Minus, r, one), "(r - 1)"}, {sign(api.Eq, r, one), "(r == 1)"}, {sign(api.Less, r, one), "(r < 1)"},
		{sign(api.Plus, one, r), "(1 + r)"}, {sign(api.Minus, num(-1), num(-2)), "(-1 - -2)"},
		{sign(api.Minus, sign(api.Plus, r, s), one), "((r + s) - 1)"},
		{sign(api.Minus, r, sign(api.Plus, s, one)), "(r - (s + 1))"},
		{sign(api.Eq, sign(api.Less, r, s), sign(api.Eq, s, r)), "((r < s) == (s == r))"},
		{sign(api.Less, sign(api.Minus, sign(api.Minus, r, s), r), sign(api.Plus, r, sign(api.Plus, s, one))), "(((r - s) - r) < (r + (s + 1)))"},
	} {
		want(t, Expr(c.e), c.text)
	}
}

func TestKidsOfExpr(t *testing.T) {
	none, r, s, u := api.Expr{}, reg("r"), num(2), reg("u")
	for op, text := range map[int]string{api.Plus: "+", api.Minus: "-", api.Eq: "==", api.Less: "<"} {
		want(t, Expr(sign(op)), "( "+text+" )")
		want(t, Expr(api.Expr{Op: op, Kids: []api.Expr{}}), "( "+text+" )")
		want(t, Expr(sign(op, r)), "(r "+text+" )")
		want(t, Expr(sign(op, none, s)), "( "+text+" 2)")
		want(t, Expr(sign(op, none, none)), "( "+text+" )")
		want(t, Expr(sign(op, r, s, u)), "(r "+text+" 2)")
		want(t, Expr(sign(op, r, s, u, u, u)), "(r "+text+" 2)")
		want(t, Expr(sign(op, sign(op), sign(op, r))), "(( "+text+" ) "+text+" (r "+text+" ))")
		want(t, Expr(api.Expr{Op: op, N: 7, Name: "n", Kids: []api.Expr{r, s}}), "(r "+text+" 2)")
		long := make([]api.Expr, 3)
		long[0], long[1] = r, s
		want(t, Expr(api.Expr{Op: op, Kids: long[:1]}), "(r "+text+" )")
	}
	want(t, Expr(api.Expr{Op: api.Num, N: 3, Name: "n", Kids: []api.Expr{r, s}}), "3")
	want(t, Expr(api.Expr{Op: api.Reg, N: 3, Name: "n", Kids: []api.Expr{r, s}}), "n")
}

func TestOpsOfExprThatAreNone(t *testing.T) {
	r, s := reg("r"), num(2)
	for _, op := range append(noKinds(), 7) {
		e := api.Expr{Op: op, N: 7, Name: "n", Kids: []api.Expr{r, s}}
		want(t, Expr(e), "")
		want(t, Expr(sign(api.Plus, e, r)), "( + r)")
		want(t, Expr(sign(api.Less, r, sign(api.Eq, s, e))), "(r < (2 == ))")
		text := Prog(api.Prog{Threads: [][]api.Stmt{{{Kind: api.Set, Reg: "r", Args: args(e)}}}, Ask: 1, Cond: mem("x", 1)})
		want(t, text, "litmus  values 0\nthread {\n  r = ;\n}\nexists x == 1\n")
	}
}

func TestCond(t *testing.T) {
	x, r := mem("x", 1), regIs(0, "r", 1)
	not := func(c api.Cond) api.Cond { return join(api.Not, c) }
	for _, c := range []struct {
		c    api.Cond
		text string
	}{
		{x, "x == 1"}, {r, "0:r == 1"}, {regIs(3, "s", 20), "3:s == 20"}, {mem("", 0), " == 0"}, {regIs(0, "", 0), "0: == 0"}, {mem("x", -1), "x == -1"}, {regIs(-2, "r", -3), "-2:r == -3"},
		{not(x), "not x == 1"}, {not(not(r)), "not not 0:r == 1"}, {not(not(not(x))), "not not not x == 1"},
		{join(api.And, x, r), "(x == 1 and 0:r == 1)"}, {join(api.Or, r, x), "(0:r == 1 or x == 1)"},
		{not(join(api.And, x, r)), "not (x == 1 and 0:r == 1)"}, {not(join(api.Or, x, r)), "not (x == 1 or 0:r == 1)"},
		{join(api.And, not(x), not(not(r))), "(not x == 1 and not not 0:r == 1)"}, {join(api.Or, not(x), r), "(not x == 1 or 0:r == 1)"},
		{join(api.And, join(api.And, x, r), x), "((x == 1 and 0:r == 1) and x == 1)"},
		{join(api.And, x, join(api.And, r, x)), "(x == 1 and (0:r == 1 and x == 1))"},
		{join(api.Or, join(api.And, x, r), join(api.Or, r, not(join(api.Or, x, x)))), "((x == 1 and 0:r == 1) or (0:r == 1 or not (x == 1 or x == 1)))"},
	} {
		want(t, Cond(c.c), c.text)
	}
}

func TestKidsOfCond(t *testing.T) {
	var none api.Cond
	x, r := mem("x", 1), regIs(0, "r", 2)
	for op, text := range map[int]string{api.And: " and ", api.Or: " or "} {
		want(t, Cond(join(op)), "("+text+")")
		want(t, Cond(join(op, x)), "(x == 1"+text+")")
		want(t, Cond(join(op, none, r)), "("+text+"0:r == 2)")
		want(t, Cond(join(op, none, none)), "("+text+")")
		want(t, Cond(join(op, x, r, x)), "(x == 1"+text+"0:r == 2)")
		want(t, Cond(join(op, join(op), join(api.Not))), "(("+text+")"+text+"not )")
		want(t, Cond(api.Cond{Op: op, Thread: 5, Name: "n", N: 6, Kids: []api.Cond{x, r}}), "(x == 1"+text+"0:r == 2)")
	}
	want(t, Cond(join(api.Not)), "not ")
	want(t, Cond(join(api.Not, none)), "not ")
	want(t, Cond(join(api.Not, none, x)), "not ")
	want(t, Cond(join(api.Not, x, r)), "not x == 1")
	want(t, Cond(join(api.Not, join(api.Not))), "not not ")
	want(t, Cond(api.Cond{Op: api.Not, Thread: 5, Name: "n", N: 6, Kids: []api.Cond{x}}), "not x == 1")
	want(t, Cond(api.Cond{Op: api.Mem, Thread: 9, Name: "n", N: 6, Kids: []api.Cond{x, r}}), "n == 6")
	want(t, Cond(api.Cond{Op: api.RegIs, Thread: 9, Name: "n", N: 6, Kids: []api.Cond{x, r}}), "9:n == 6")
}

func TestOpsOfCondThatAreNone(t *testing.T) {
	x := mem("x", 1)
	for _, op := range append(noKinds(), 6, 7) {
		c := api.Cond{Op: op, Thread: 1, Name: "n", N: 2, Kids: []api.Cond{x, x}}
		want(t, Cond(c), "")
		want(t, Cond(join(api.Not, c)), "not ")
		want(t, Cond(join(api.And, c, x)), "( and x == 1)")
		want(t, Cond(join(api.Or, x, join(api.Not, c))), "(x == 1 or not )")
		want(t, Prog(api.Prog{Ask: 2, Cond: c}), "litmus  values 0\nforall \n")
	}
}

// shown is a program of one thread, without its first and last lines.
func shown(t *testing.T, l []api.Stmt) string {
	t.Helper()
	const head, tail = "litmus a values 2\nthread {\n", "}\nexists x == 1\n"
	text := Prog(api.Prog{Name: "a", Vals: 2, Threads: [][]api.Stmt{l}, Ask: 1, Cond: mem("x", 1)})
	if len(text) < len(head+tail) || !strings.HasPrefix(text, head) || !strings.HasSuffix(text, tail) {
		t.Fatalf("%q", text)
	}
	return text[len(head) : len(text)-len(tail)]
}

func TestStatementsInEachMode(t *testing.T) {
	e := sign(api.Plus, reg("s"), num(1))
	for _, m := range []int{0, 1, 2, 3, 4, -1, 5, 1 << 62} {
		mode := modelMode(m)
		for _, c := range []struct {
			s    api.Stmt
			text string
		}{
			{api.Stmt{Kind: api.Set, Reg: "r", Args: args(e)}, "r = (s + 1);"},
			{api.Stmt{Kind: api.Set, Reg: "r", Args: args(num(0))}, "r = 0;"},
			{api.Stmt{Kind: api.Load, Reg: "r", Loc: "x"}, "r = load MODE x;"},
			{api.Stmt{Kind: api.Store, Loc: "x", Args: args(e)}, "store MODE x (s + 1);"},
			{api.Stmt{Kind: api.Add, Reg: "r", Loc: "x", Args: args(e)}, "r = add MODE x (s + 1);"},
			{api.Stmt{Kind: api.Cas, Reg: "r", Loc: "x", Args: args(num(2), e)}, "r = cas MODE x 2, (s + 1);"},
			{api.Stmt{Kind: api.Fence}, "fence MODE;"},
		} {
			c.s.Mode = m
			want(t, shown(t, stmts(c.s)), "  "+strings.Replace(c.text, "MODE", mode, 1)+"\n")
		}
		want(t, shown(t, stmts(api.Stmt{Kind: api.If, Mode: m, Args: args(e)})), "  if (s + 1) {\n  }\n")
	}
}

func TestArgsThatAreNotThere(t *testing.T) {
	e, none := num(7), api.Expr{}
	for _, c := range []struct {
		kind int
		args []api.Expr
		text string
	}{
		{api.Set, nil, "r = ;"}, {api.Set, args(none), "r = ;"}, {api.Set, args(none, e), "r = ;"}, {api.Set, args(e, num(8)), "r = 7;"},
		{api.Load, nil, "r = load sc x;"}, {api.Load, args(e, e), "r = load sc x;"},
		{api.Store, nil, "store sc x ;"}, {api.Store, args(none, e), "store sc x ;"}, {api.Store, args(e, num(8)), "store sc x 7;"},
		{api.Add, nil, "r = add sc x ;"}, {api.Add, args(none, e), "r = add sc x ;"}, {api.Add, args(e, num(8)), "r = add sc x 7;"},
		{api.Cas, nil, "r = cas sc x , ;"}, {api.Cas, args(e), "r = cas sc x 7, ;"}, {api.Cas, args(none, e), "r = cas sc x , 7;"}, {api.Cas, args(e, num(8), num(9)), "r = cas sc x 7, 8;"},
		{api.Fence, args(e, e), "fence sc;"},
		{api.If, nil, "if  {\n  }"}, {api.If, args(none, e), "if  {\n  }"}, {api.If, args(e, num(8)), "if 7 {\n  }"},
	} {
		s := api.Stmt{Kind: c.kind, Mode: api.Sc, Reg: "r", Loc: "x", Args: c.args}
		want(t, shown(t, stmts(s)), "  "+c.text+"\n")
		if c.kind != api.If {
			s.Then, s.Else = stmts(fenceOf(1)), stmts(fenceOf(2))
			want(t, shown(t, stmts(s)), "  "+c.text+"\n")
		}
	}
}

func TestKindsThatAreNone(t *testing.T) {
	sc := fenceOf(api.Sc)
	for _, k := range noKinds() {
		s := api.Stmt{Kind: k, Mode: 1, Reg: "r", Loc: "x", Args: args(num(1), num(2)), Then: stmts(sc), Else: stmts(sc)}
		want(t, shown(t, stmts(s)), "")
		want(t, shown(t, stmts(s, sc, s, s, sc, s)), "  fence sc;\n  fence sc;\n")
		want(t, shown(t, stmts(when(stmts(s), nil))), "  if 1 {\n  }\n")
		want(t, shown(t, stmts(when(stmts(s, sc), stmts(sc, s)))), "  if 1 {\n    fence sc;\n  } else {\n    fence sc;\n  }\n")
		want(t, shown(t, stmts(when(nil, stmts(s)))), "  if 1 {\n  } else {\n  }\n")
	}
}

func TestIfs(t *testing.T) {
	a, b, c := fenceOf(api.Acq), fenceOf(api.Rel), fenceOf(api.Sc)
	for _, k := range []struct {
		l    []api.Stmt
		text string
	}{
		{stmts(when(nil, nil)), "  if 1 {\n  }\n"},
		{stmts(when([]api.Stmt{}, []api.Stmt{})), "  if 1 {\n  }\n"},
		{stmts(when(stmts(a), nil)), "  if 1 {\n    fence acq;\n  }\n"},
		{stmts(when(stmts(a), []api.Stmt{})), "  if 1 {\n    fence acq;\n  }\n"},
		{stmts(when(nil, stmts(b))), "  if 1 {\n  } else {\n    fence rel;\n  }\n"},
		{stmts(when(stmts(a, c), stmts(b, a))), "  if 1 {\n    fence acq;\n    fence sc;\n  } else {\n    fence rel;\n    fence acq;\n  }\n"},
		{stmts(a, when(stmts(b), nil), c), "  fence acq;\n  if 1 {\n    fence rel;\n  }\n  fence sc;\n"},
		{stmts(when(nil, nil), when(nil, nil)), "  if 1 {\n  }\n  if 1 {\n  }\n"},
		{
			stmts(when(stmts(when(stmts(a), stmts(b)), c), stmts(when(nil, stmts(when(stmts(c), nil), a)))), b),
			"  if 1 {\n    if 1 {\n      fence acq;\n    } else {\n      fence rel;\n    }\n    fence sc;\n  } else {\n    if 1 {\n    } else {\n      if 1 {\n        fence sc;\n      }\n      fence acq;\n    }\n  }\n  fence rel;\n",
		},
	} {
		want(t, shown(t, k.l), k.text)
	}
}

func TestHowFarInLinesStand(t *testing.T) {
	const deep = 200
	inner := stmts(fenceOf(api.Sc))
	var ahead, behind string
	for i := deep; i > 0; i-- {
		in := strings.Repeat(" ", 2*i)
		if i%2 == 0 {
			inner = stmts(when(inner, nil))
			ahead = in + "if 1 {\n" + ahead
		} else {
			inner = stmts(when(nil, inner))
			ahead = in + "if 1 {\n" + in + "} else {\n" + ahead
		}
		behind += in + "}\n"
	}
	want(t, shown(t, inner), ahead+strings.Repeat(" ", 2*deep+2)+"fence sc;\n"+behind)
}

func TestProg(t *testing.T) {
	x := mem("x", 1)
	cells := []api.Cell{{Loc: "x", N: 2}, {Loc: "y"}, {Loc: "x", N: 1}}
	sc := stmts(fenceOf(api.Sc))
	for _, c := range []struct {
		p    api.Prog
		text string
	}{
		{api.Prog{}, "litmus  values 0\n \n"},
		{api.Prog{Name: "a", Vals: 2, Ask: api.Exists, Cond: x}, "litmus a values 2\nexists x == 1\n"},
		{api.Prog{Name: "a", Vals: 2, Ask: api.Forall, Cond: x}, "litmus a values 2\nforall x == 1\n"},
		{api.Prog{Name: "a", Vals: 2, Init: cells[:1], Ask: 1, Cond: x}, "litmus a values 2\ninit x 2\nexists x == 1\n"},
		{api.Prog{Name: "a", Vals: 2, Init: cells, Ask: 1, Cond: x}, "litmus a values 2\ninit x 2\ninit y 0\ninit x 1\nexists x == 1\n"},
		{api.Prog{Name: "a", Vals: 2, Threads: [][]api.Stmt{nil}, Ask: 1, Cond: x}, "litmus a values 2\nthread {\n}\nexists x == 1\n"},
		{api.Prog{Name: "a", Vals: 2, Threads: [][]api.Stmt{{}, sc, nil}, Ask: 1, Cond: x}, "litmus a values 2\nthread {\n}\nthread {\n  fence sc;\n}\nthread {\n}\nexists x == 1\n"},
		{api.Prog{Name: "a", Vals: 2, Init: cells[:1], Threads: [][]api.Stmt{sc, sc}, Ask: 2, Cond: x}, "litmus a values 2\ninit x 2\nthread {\n  fence sc;\n}\nthread {\n  fence sc;\n}\nforall x == 1\n"},
		{api.Prog{Init: make([]api.Cell, 2), Threads: make([][]api.Stmt, 2), Ask: 1}, "litmus  values 0\ninit  0\ninit  0\nthread {\n}\nthread {\n}\nexists \n"},
	} {
		want(t, Prog(c.p), c.text)
	}
	for _, ask := range []int{0, 3, -1, 4, 1 << 32, 1<<32 + 1, 1 << 62, -1 << 63} {
		want(t, Prog(api.Prog{Name: "a", Vals: 2, Ask: ask, Cond: x}), "litmus a values 2\n x == 1\n")
		want(t, Prog(api.Prog{Ask: ask}), "litmus  values 0\n \n")
	}
}

func TestOddThingsAgainstModel(t *testing.T) {
	for seed := range 6000 {
		o := &odd{mixed(seed)}
		o.below(2)
		e, c := o.expr(4), o.cond(4)
		want(t, Expr(e), modelExpr(e))
		want(t, Cond(c), modelCond(c))
		p := o.prog()
		want(t, Prog(p), modelProg(p))
		if t.Failed() {
			t.FailNow()
		}
	}
}
