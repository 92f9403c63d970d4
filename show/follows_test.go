package show

import (
	"reflect"
	"strconv"
	"strings"
	"testing"

	"withe/api"
	"withe/parse"
)

// plain puts nil where an empty list is, all the way down, as both are one.
func plain(v reflect.Value) {
	switch v.Kind() {
	case reflect.Struct:
		for i := range v.NumField() {
			plain(v.Field(i))
		}
	case reflect.Slice:
		if v.Len() == 0 {
			v.SetZero()
		}
		for i := range v.Len() {
			plain(v.Index(i))
		}
	}
}

func same(a, b api.Prog) bool {
	plain(reflect.ValueOf(&a).Elem())
	plain(reflect.ValueOf(&b).Elem())
	return reflect.DeepEqual(a, b)
}

// wantReadAgain shows p, reads what is shown, and shows what is read.
func wantReadAgain(t *testing.T, p api.Prog) {
	t.Helper()
	text := Prog(p)
	got, f := parse.Parse(text)
	if f != (api.Fault{}) || !same(got, p) {
		t.Fatalf("%v is shown as\n%sand read again as %v, %v", p, text, got, f)
	}
	want(t, Prog(got), text)
}

// What follows: a program that was read is shown, and read again as the same.
func TestTextsReadShownReadAgain(t *testing.T) {
	for _, text := range []string{
		"litmus a values 2 exists x == 1",
		"litmus a values 2 init x 0 thread { store sc x 1; r = load sc x; } exists 0:r == 1",
		"litmus c values 02//\nthread{if 1{}else{}}thread{}forall((x==1))",
		"litmus a values 3 init x 1 init y 002 thread { a = 1 + 2 - 3 < 4 - (5 + 6); if a == (b == c) { if 1 { } else { d = 1; } } else { fence rlx; } } forall x == 1 or y == 2 and not not (0:a == 1 or x == 2) or not x == 0",
		"litmus a values 3 thread { r = cas rlx x r < 1, (1) - 1; s = add acq x 1; store rel y 1 == 1; u = load acqrel x; fence sc; } exists not not not x == 1 and y == 2 and 4611686018427387904:z == 4611686018427387904",
	} {
		p, f := parse.Parse(text)
		if f != (api.Fault{}) {
			t.Fatalf("%q: %v", text, f)
		}
		wantReadAgain(t, p)
	}
}

func TestProgramsShownAndReadAgain(t *testing.T) {
	read := 0
	for seed := range 6000 {
		m := &fair{mixed(seed)}
		m.below(2)
		p := m.prog()
		want(t, Prog(p), modelProg(p))
		if len(Prog(p)) <= api.MaxText {
			wantReadAgain(t, p)
			read++
		}
	}
	if read < 4500 {
		t.Errorf("only %d were read", read)
	}
}

// A program that may be, with as many names and things within one another as there may be.
func TestProgramAtTheLimitsIsReadAgain(t *testing.T) {
	e, c := reg("register"), regIs(3, "register", api.MaxVals-1)
	for range api.MaxDeep - 1 {
		e, c = sign(api.Minus, num(api.MaxVals-1), e), join(api.Not, c)
	}
	inner := stmts(api.Stmt{Kind: api.Cas, Mode: api.AcqRel, Reg: "register", Loc: "location", Args: args(e, e)})
	for i := range api.MaxDeep {
		if i%2 == 0 {
			inner = stmts(api.Stmt{Kind: api.If, Args: args(num(0)), Then: inner})
		} else {
			inner = stmts(api.Stmt{Kind: api.If, Args: args(num(1)), Else: inner})
		}
	}
	p := api.Prog{Name: "litmus12", Vals: api.MaxVals, Ask: api.Forall, Cond: c}
	for i := range api.MaxLocs {
		p.Init = append(p.Init, api.Cell{Loc: "locatio" + strconv.Itoa(i), N: i})
	}
	p.Init[0].Loc = "location"
	for range api.MaxThreads {
		first := api.Stmt{Kind: api.Set, Reg: "register", Args: args(num(0))}
		p.Threads = append(p.Threads, append(stmts(first), inner...))
	}
	wantReadAgain(t, p)
}

func TestEachExpressionIsReadAgain(t *testing.T) {
	atoms := []api.Expr{num(0), num(12), reg("r")}
	var pairs []api.Expr
	for op := api.Plus; op <= api.Less; op++ {
		for _, a := range atoms {
			pairs = append(pairs, sign(op, a, num(3)))
		}
	}
	small := append(pairs, atoms...)
	for op := api.Plus; op <= api.Less; op++ {
		for _, a := range small {
			for _, b := range small {
				e := sign(op, a, b)
				p := api.Prog{Name: "a", Vals: 2, Ask: 1, Cond: mem("x", 1)}
				p.Threads = [][]api.Stmt{{
					{Kind: api.Set, Reg: "r", Args: args(e)}, {Kind: api.Store, Mode: 1, Loc: "x", Args: args(e)}, {Kind: api.Cas, Mode: 2, Reg: "s", Loc: "y", Args: args(e, e)},
					{Kind: api.Add, Mode: 3, Reg: "s", Loc: "y", Args: args(e)}, {Kind: api.If, Args: args(e)},
				}}
				wantReadAgain(t, p)
			}
		}
	}
}

func TestEachConditionIsReadAgain(t *testing.T) {
	conds := []api.Cond{mem("x", 1), regIs(0, "r", 2)}
	for range 2 {
		all := conds
		for _, a := range conds {
			all = append(all, join(api.Not, a))
			for _, b := range conds {
				all = append(all, join(api.And, a, b), join(api.Or, a, b))
			}
		}
		conds = all
	}
	for i, c := range conds {
		wantReadAgain(t, api.Prog{Name: "a", Vals: 2, Ask: 1 + i%2, Cond: c})
	}
}

// copied is v with new memory and the same spare room all the way down.
func copied(v reflect.Value) reflect.Value {
	out := reflect.New(v.Type()).Elem()
	out.Set(v)
	switch v.Kind() {
	case reflect.Struct:
		for i := range v.NumField() {
			out.Field(i).Set(copied(v.Field(i)))
		}
	case reflect.Slice:
		if v.IsNil() {
			return out
		}
		all := v.Slice(0, v.Cap())
		out = reflect.MakeSlice(v.Type(), v.Cap(), v.Cap())
		for i := range all.Len() {
			out.Index(i).Set(copied(all.Index(i)))
		}
		out = out.Slice(0, v.Len())
	}
	return out
}

// whole puts what stands in spare room within the lists, so that it is compared too.
func whole(v reflect.Value) reflect.Value {
	out := copied(v)
	switch v.Kind() {
	case reflect.Struct:
		for i := range v.NumField() {
			out.Field(i).Set(whole(v.Field(i)))
		}
	case reflect.Slice:
		out = out.Slice(0, v.Cap())
		for i := range out.Len() {
			out.Index(i).Set(whole(out.Index(i)))
		}
	}
	return out
}

func TestNothingHandedInIsChanged(t *testing.T) {
	for seed := range 80 {
		o := &odd{mixed(seed)}
		o.below(2)
		p := o.prog()
		if len(p.Threads) > 1 {
			p.Threads = p.Threads[:1]
		}
		was := copied(reflect.ValueOf(p))
		first := Prog(p)
		if !reflect.DeepEqual(whole(was).Interface(), whole(reflect.ValueOf(p)).Interface()) {
			t.Fatalf("what was %v is %v", was, p)
		}
		want(t, Prog(p), first)
		want(t, Prog(was.Interface().(api.Prog)), first)
	}
}

// What is shown does not hang on what was shown ahead of it, nor is it changed by what is done to what was handed in.
func TestAnswersStay(t *testing.T) {
	kids := []api.Expr{reg("r"), num(1)}
	first := Expr(sign(api.Plus, kids...))
	kids[0], kids[1] = num(5), reg("s")
	want(t, first, "(r + 1)")
	want(t, Expr(sign(api.Plus, kids...)), "(5 + s)")
}

func TestDeepThings(t *testing.T) {
	const deep = 1<<16 - 1
	left, right := reg("r"), reg("r")
	and, not := mem("x", 1), mem("x", 1)
	for range deep {
		left, right = sign(api.Minus, left, num(1)), sign(api.Less, num(1), right)
		and, not = join(api.And, and, mem("y", 2)), join(api.Not, not)
	}
	for _, c := range []struct{ got, text string }{
		{Expr(left), strings.Repeat("(", deep) + "r" + strings.Repeat(" - 1)", deep)},
		{Expr(right), strings.Repeat("(1 < ", deep) + "r" + strings.Repeat(")", deep)},
		{Cond(and), strings.Repeat("(", deep) + "x == 1" + strings.Repeat(" and y == 2)", deep)},
		{Cond(not), strings.Repeat("not ", deep) + "x == 1"},
		{Prog(api.Prog{Ask: 1, Cond: not}), "litmus  values 0\nexists " + strings.Repeat("not ", deep) + "x == 1\n"},
	} {
		if c.got != c.text {
			t.Errorf("%.60q.., not %.60q..", c.got, c.text)
		}
	}
}

func TestManyThings(t *testing.T) {
	const many = 50000
	p := api.Prog{Name: "a", Vals: 2, Init: make([]api.Cell, many), Threads: make([][]api.Stmt, many), Ask: 1, Cond: mem("x", 1)}
	p.Threads[0] = make([]api.Stmt, many)
	p.Threads[1] = make([]api.Stmt, many)
	for i := range p.Threads[1] {
		p.Threads[1][i] = fenceOf(api.Sc)
	}
	text := "litmus a values 2\n" + strings.Repeat("init  0\n", many) + "thread {\n}\nthread {\n" + strings.Repeat("  fence sc;\n", many) + "}\n" + strings.Repeat("thread {\n}\n", many-2) + "exists x == 1\n"
	if Prog(p) != text {
		t.Error("many cells, threads and statements are shown otherwise")
	}
}
