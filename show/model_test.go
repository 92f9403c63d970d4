package show

import (
	"fmt"
	"strings"

	"withe/api"
)

// kid is what l has at that place, by f; nothing, if nothing is there.
func kid[T any](l []T, i int, f func(T) string) string {
	if i >= len(l) {
		return ""
	}
	return f(l[i])
}

func modelMode(m int) string {
	if m < 0 || m > 4 {
		return ""
	}
	return strings.Fields("rlx acq rel acqrel sc")[m]
}

func modelExpr(e api.Expr) string {
	switch {
	case e.Op == 1:
		return fmt.Sprint(e.N)
	case e.Op == 2:
		return e.Name
	case e.Op >= 3 && e.Op <= 6:
		return fmt.Sprintf("(%s %s %s)", kid(e.Kids, 0, modelExpr), strings.Fields("+ - == <")[e.Op-3], kid(e.Kids, 1, modelExpr))
	}
	return ""
}

func modelCond(c api.Cond) string {
	switch {
	case c.Op == 1:
		return fmt.Sprintf("%s == %d", c.Name, c.N)
	case c.Op == 2:
		return fmt.Sprintf("%d:%s == %d", c.Thread, c.Name, c.N)
	case c.Op == 3:
		return fmt.Sprintf("not %s", kid(c.Kids, 0, modelCond))
	case c.Op == 4 || c.Op == 5:
		return fmt.Sprintf("(%s %s %s)", kid(c.Kids, 0, modelCond), strings.Fields("and or")[c.Op-4], kid(c.Kids, 1, modelCond))
	}
	return ""
}

// modelStmt is a statement's lines as the chapter writes them, with nothing ahead of each.
func modelStmt(s api.Stmt) []string {
	forms := []string{
		1: "REG = ARG0;", 2: "REG = load MODE LOC;", 3: "store MODE LOC ARG0;", 4: "REG = add MODE LOC ARG0;",
		5: "REG = cas MODE LOC ARG0, ARG1;", 6: "fence MODE;", 7: "if ARG0 {",
	}
	if s.Kind < 1 || s.Kind > 7 {
		return nil
	}
	fill := strings.NewReplacer("REG", s.Reg, "MODE", modelMode(s.Mode), "LOC", s.Loc, "ARG0", kid(s.Args, 0, modelExpr), "ARG1", kid(s.Args, 1, modelExpr))
	l := []string{fill.Replace(forms[s.Kind])}
	if s.Kind < 7 {
		return l
	}
	l = append(l, modelStmts(s.Then)...)
	if len(s.Else) != 0 {
		l = append(l, "} else {")
		l = append(l, modelStmts(s.Else)...)
	}
	return append(l, "}")
}

func modelStmts(stmts []api.Stmt) []string {
	var l []string
	for _, s := range stmts {
		l = append(l, modelStmt(s)...)
	}
	return l
}

// modelProg finds how far in a line stands by the curly brackets ahead of it alone; no name of p may have such ones.
func modelProg(p api.Prog) string {
	l := []string{fmt.Sprintf("litmus %s values %d", p.Name, p.Vals)}
	for _, c := range p.Init {
		l = append(l, fmt.Sprintf("init %s %d", c.Loc, c.N))
	}
	for _, t := range p.Threads {
		l = append(l, "thread {")
		l = append(l, modelStmts(t)...)
		l = append(l, "}")
	}
	ask := map[int]string{1: "exists", 2: "forall"}[p.Ask]
	l = append(l, ask+" "+modelCond(p.Cond))
	var text strings.Builder
	deep := 0
	for _, s := range l {
		if strings.HasPrefix(s, "}") {
			deep--
		}
		text.WriteString(strings.Repeat("  ", deep) + s + "\n")
		if strings.HasSuffix(s, "{") {
			deep++
		}
	}
	return text.String()
}

// mixed is a row of numbers without order, the same at each run.
type mixed uint64

func (m *mixed) below(n int) int {
	*m = *m*6364136223846793005 + 1442695040888963407
	return int(uint64(*m) >> 33 % uint64(n))
}

func pick[T any](m *mixed, l ...T) T { return l[m.below(len(l))] }

func list[T any](n int, one func() T) []T {
	var l []T
	for range n {
		l = append(l, one())
	}
	return l
}

// odd makes things that need not be any: Ops and Kinds that are none, too few and too many Kids and Args, fields that no sentence names.
type odd struct{ mixed }

func (o *odd) name() string {
	return pick(&o.mixed, "", "r", "x1", "a b", "load", "é", "\xff", "==", ";")
}

func (o *odd) number() int {
	return pick(&o.mixed, 0, 1, 2, -1, -12, 10, 345, 1<<62, -1<<62, 1<<63-1, -1<<63)
}

func (o *odd) expr(deep int) api.Expr {
	e := api.Expr{Op: o.below(10) - 1, N: o.number(), Name: o.name()}
	if deep > 0 {
		e.Kids = list(o.below(4), func() api.Expr { return o.expr(deep - 1) })
	}
	return e
}

func (o *odd) cond(deep int) api.Cond {
	c := api.Cond{Op: o.below(8) - 1, Thread: o.number(), N: o.number(), Name: o.name()}
	if deep > 0 {
		c.Kids = list(o.below(4), func() api.Cond { return o.cond(deep - 1) })
	}
	return c
}

func (o *odd) stmts(deep int) []api.Stmt {
	return list(o.below(4), func() api.Stmt { return o.stmt(deep) })
}

func (o *odd) stmt(deep int) api.Stmt {
	s := api.Stmt{Kind: pick(&o.mixed, -1, 0, 1, 2, 3, 4, 5, 6, 7, 7, 7, 8, 1<<62), Mode: o.below(8) - 1, Reg: o.name(), Loc: o.name()}
	s.Args = list(o.below(4), func() api.Expr { return o.expr(2) })
	if deep > 0 {
		s.Then, s.Else = o.stmts(deep-1), o.stmts(deep-1)
	}
	return s
}

func (o *odd) prog() api.Prog {
	return api.Prog{
		Name: o.name(), Vals: o.number(),
		Init:    list(o.below(4), func() api.Cell { return api.Cell{Loc: o.name(), N: o.number()} }),
		Threads: list(o.below(4), func() []api.Stmt { return o.stmts(3) }),
		Ask:     o.below(5) - 1, Cond: o.cond(3),
	}
}

// fair makes programs that a text can say: each thing has what it needs, and nothing else.
type fair struct{ mixed }

func (f *fair) name() string {
	return pick(&f.mixed, "a", "b", "r1", "x", "Y", "eightlet", "Store", "iff", "scs")
}

func (f *fair) number() int { return pick(&f.mixed, 0, 1, 2, 3, 17, api.MaxNum) }

func (f *fair) expr(deep int) api.Expr {
	op := 1 + f.below(6)
	switch {
	case op == 1 || deep == 0 && op < 4:
		return api.Expr{Op: 1, N: f.number()}
	case op == 2 || deep == 0:
		return api.Expr{Op: 2, Name: f.name()}
	}
	return api.Expr{Op: op, Kids: []api.Expr{f.expr(deep - 1), f.expr(deep - 1)}}
}

func (f *fair) cond(deep int) api.Cond {
	op := 1 + f.below(5)
	if deep == 0 {
		op = 1 + f.below(2)
	}
	switch op {
	case 1:
		return api.Cond{Op: 1, Name: f.name(), N: f.number()}
	case 2:
		return api.Cond{Op: 2, Thread: f.number(), Name: f.name(), N: f.number()}
	case 3:
		return api.Cond{Op: 3, Kids: []api.Cond{f.cond(deep - 1)}}
	}
	return api.Cond{Op: op, Kids: []api.Cond{f.cond(deep - 1), f.cond(deep - 1)}}
}

func (f *fair) stmts(deep int) []api.Stmt {
	return list(f.below(4), func() api.Stmt { return f.stmt(deep) })
}

func (f *fair) stmt(deep int) api.Stmt {
	s := api.Stmt{Kind: 1 + f.below(7)}
	if deep == 0 {
		s.Kind = 1 + f.below(6)
	}
	if strings.Contains("2 3 4 5 6", fmt.Sprint(s.Kind)) {
		s.Mode = f.below(5)
	}
	if strings.Contains("2 3 4 5", fmt.Sprint(s.Kind)) {
		s.Loc = f.name()
	}
	if strings.Contains("1 2 4 5", fmt.Sprint(s.Kind)) {
		s.Reg = f.name()
	}
	s.Args = list([]int{1: 1, 3: 1, 4: 1, 5: 2, 7: 1}[s.Kind], func() api.Expr { return f.expr(3) })
	if s.Kind == 7 {
		s.Then, s.Else = f.stmts(deep-1), f.stmts(deep-1)
	}
	return s
}

func (f *fair) prog() api.Prog {
	return api.Prog{
		Name: f.name(), Vals: f.number(),
		Init:    list(f.below(4), func() api.Cell { return api.Cell{Loc: f.name(), N: f.number()} }),
		Threads: list(f.below(4), func() []api.Stmt { return f.stmts(3) }),
		Ask:     1 + f.below(2), Cond: f.cond(4),
	}
}
