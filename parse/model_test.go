package parse

import (
	"slices"
	"strconv"
	"strings"

	"withe/api"
	"withe/lex"
)

// grammar is the chapter's, with a rule of its own for what stands there as often as one likes, or once, or not at all.
func grammar() map[string][]string {
	return map[string][]string{
		"program":  {"litmus NAME values NUMBER inits threads question"},
		"inits":    {"", "init NAME NUMBER inits"},
		"threads":  {"", "thread block threads"},
		"question": {"exists cond END", "forall cond END"},
		"block":    {"{ stmts }"},
		"stmts":    {"", "stmt stmts"},
		"stmt":     {"NAME = right ;", "store MODE NAME expr ;", "fence MODE ;", "if expr block other"},
		"other":    {"", "else block"},
		"right":    {"load MODE NAME", "add MODE NAME expr", "cas MODE NAME expr , expr", "expr"},
		"expr":     {"sum", "sum == sum", "sum < sum"},
		"sum":      {"atom addends"},
		"addends":  {"", "+ atom addends", "- atom addends"},
		"atom":     {"NUMBER", "NAME", "( expr )"},
		"cond":     {"both more"},
		"more":     {"", "or both more"},
		"both":     {"one further"},
		"further":  {"", "and one further"},
		"one":      {"not one", "( cond )", "NUMBER : NAME == NUMBER", "NAME == NUMBER"},
	}
}

// stack is what is still to come by one way of reading, the next thing last.
type stack []string

// recognizer goes by all ways of reading at once, so that it needs to look at no token ahead. It has each rule's parts, the first one last.
type recognizer map[string][]stack

func newRecognizer() recognizer {
	r := recognizer{}
	for name, rules := range grammar() {
		for _, rule := range rules {
			parts := strings.Fields(rule)
			slices.Reverse(parts)
			r[name] = append(r[name], parts)
		}
	}
	return r
}

// unfold brings each way to where a token is asked next.
func (r recognizer) unfold(ways []stack) []stack {
	var out []stack
	for len(ways) > 0 {
		w := ways[len(ways)-1]
		ways = ways[:len(ways)-1]
		last := len(w) - 1
		if last < 0 {
			continue
		}
		rules, ok := r[w[last]]
		if !ok {
			out = append(out, w)
			continue
		}
		for _, rule := range rules {
			ways = append(ways, slices.Concat(w[:last], rule))
		}
	}
	return out
}

// fits tells whether a token is what the grammar asks by that word or sign.
func fits(t api.Token, asked string) bool {
	switch asked {
	case "NAME":
		return t.Kind == api.Word && !strings.Contains(" litmus values init thread load add cas store fence if else exists forall and or not rlx acq rel acqrel sc ", " "+t.Text+" ")
	case "NUMBER":
		return t.Kind == api.Number
	case "MODE":
		return t.Kind == api.Word && strings.Contains(" rlx acq rel acqrel sc ", " "+t.Text+" ")
	case "END":
		return t.Kind == api.End
	}
	return t.Text == asked
}

// fault is the first token that goes on no way of reading.
func (r recognizer) fault(tokens []api.Token) api.Fault {
	ways := []stack{{"program"}}
	for _, t := range tokens {
		var left []stack
		for _, w := range r.unfold(ways) {
			if last := len(w) - 1; fits(t, w[last]) {
				left = append(left, w[:last])
			}
		}
		if len(left) == 0 {
			return api.Fault{Err: api.ErrForm, At: t.At}
		}
		ways = left
	}
	return api.Fault{}
}

func (r recognizer) faultOf(text string) api.Fault {
	tokens, f := lex.Lex(text)
	if f.Err != api.OK {
		return f
	}
	return r.fault(tokens)
}

// outermost is the place of the last of the texts that stands within no brackets; -1, if there is none.
func outermost(l []api.Token, texts string) int {
	deep, at := 0, -1
	for i, t := range l {
		switch {
		case t.Text == "(":
			deep++
		case t.Text == ")":
			deep--
		case deep == 0 && slices.Contains(strings.Fields(texts), t.Text):
			at = i
		}
	}
	return at
}

// exprBySplit is an expression that is one, read from its outermost sign inwards.
func exprBySplit(l []api.Token) api.Expr {
	ops := map[string]int{"+": 3, "-": 4, "==": 5, "<": 6}
	for _, texts := range []string{"== <", "+ -"} {
		if i := outermost(l, texts); i >= 0 {
			return api.Expr{Op: ops[l[i].Text], Kids: []api.Expr{exprBySplit(l[:i]), exprBySplit(l[i+1:])}}
		}
	}
	switch {
	case l[0].Text == "(":
		return exprBySplit(l[1 : len(l)-1])
	case l[0].Kind == api.Number:
		return api.Expr{Op: 1, N: l[0].N}
	}
	return api.Expr{Op: 2, Name: l[0].Text}
}

// condBySplit is a condition that is one, read from its outermost word inwards.
func condBySplit(l []api.Token) api.Cond {
	if i := outermost(l, "or"); i >= 0 {
		return api.Cond{Op: 5, Kids: []api.Cond{condBySplit(l[:i]), condBySplit(l[i+1:])}}
	}
	if i := outermost(l, "and"); i >= 0 {
		return api.Cond{Op: 4, Kids: []api.Cond{condBySplit(l[:i]), condBySplit(l[i+1:])}}
	}
	switch {
	case l[0].Text == "not":
		return api.Cond{Op: 3, Kids: []api.Cond{condBySplit(l[1:])}}
	case l[0].Text == "(":
		return condBySplit(l[1 : len(l)-1])
	case l[0].Kind == api.Number:
		return api.Cond{Op: 2, Thread: l[0].N, Name: l[2].Text, N: l[4].N}
	}
	return api.Cond{Op: 1, Name: l[0].Text, N: l[2].N}
}

// mixed is a row of numbers without order, the same at each run.
type mixed uint64

func (m *mixed) below(n int) int {
	*m = *m*6364136223846793005 + 1442695040888963407
	return int(uint64(*m) >> 33 % uint64(n))
}

func pick[T any](m *mixed, l ...T) T { return l[m.below(len(l))] }

// writer writes programs token by token, and keeps at which of them parts begin.
type writer struct {
	mixed
	tokens []string
	parts  []int
}

func (w *writer) put(texts ...string) { w.tokens = append(w.tokens, texts...) }

func (w *writer) part() { w.parts = append(w.parts, len(w.tokens)) }

func (w *writer) name() string {
	s := pick(&w.mixed, "a", "b", "r1", "x", "Y", "longername0123456789", "Store", "iff", "scs", "END")
	w.put(s)
	return s
}

func (w *writer) number() int {
	n := pick(&w.mixed, 0, 1, 2, 3, 17, api.MaxNum)
	w.put(strings.Repeat("0", w.below(8)/6) + strconv.Itoa(n))
	return n
}

func (w *writer) mode() int {
	m := w.below(5)
	w.put([]string{"rlx", "acq", "rel", "acqrel", "sc"}[m])
	return m
}

// inBrackets writes what f writes, with brackets around it where it needs them, and at times where not.
func inBrackets[T any](w *writer, needs bool, f func() T) T {
	if !needs && w.below(6) > 0 {
		return f()
	}
	w.put("(")
	out := f()
	w.put(")")
	return out
}

// expr writes an expression that holds at least so tight: 0 compares, 1 is a sum, 2 an atom.
func (w *writer) expr(deep, tight int) api.Expr {
	kind := w.below(3)
	if deep == 0 {
		kind = 2
	}
	return inBrackets(w, kind < tight, func() api.Expr {
		switch kind {
		case 0:
			return w.pair(deep, 1, 1, pick(&w.mixed, "==", "<"))
		case 1:
			return w.pair(deep, 1, 2, pick(&w.mixed, "+", "-"))
		}
		if w.below(2) == 0 {
			return api.Expr{Op: api.Num, N: w.number()}
		}
		return api.Expr{Op: api.Reg, Name: w.name()}
	})
}

func (w *writer) pair(deep, left, right int, sign string) api.Expr {
	e := api.Expr{Op: map[string]int{"+": api.Plus, "-": api.Minus, "==": api.Eq, "<": api.Less}[sign]}
	e.Kids = append(e.Kids, w.expr(deep-1, left))
	w.put(sign)
	e.Kids = append(e.Kids, w.expr(deep-1, right))
	return e
}

// cond writes a condition that holds at least so tight: 0 is an or, 1 an and, 2 and 3 are others.
func (w *writer) cond(deep, tight int) api.Cond {
	kind := w.below(4)
	if deep == 0 {
		kind = 3
	}
	return inBrackets(w, kind < tight, func() api.Cond {
		switch kind {
		case 0:
			return w.joined(deep, api.Or, 0, 1, "or")
		case 1:
			return w.joined(deep, api.And, 1, 2, "and")
		case 2:
			w.put("not")
			return api.Cond{Op: api.Not, Kids: []api.Cond{w.cond(deep-1, 2)}}
		}
		return w.leaf()
	})
}

func (w *writer) joined(deep, op, left, right int, word string) api.Cond {
	k := api.Cond{Op: op, Kids: []api.Cond{w.cond(deep-1, left)}}
	w.put(word)
	k.Kids = append(k.Kids, w.cond(deep-1, right))
	return k
}

func (w *writer) leaf() api.Cond {
	k := api.Cond{Op: api.Mem}
	if w.below(2) == 0 {
		k.Op = api.RegIs
		k.Thread = w.number()
		w.put(":")
	}
	k.Name = w.name()
	w.put("==")
	k.N = w.number()
	return k
}

func (w *writer) block(deep int) []api.Stmt {
	w.put("{")
	var l []api.Stmt
	for range w.below(4) {
		l = append(l, w.stmt(deep))
	}
	w.put("}")
	return l
}

func (w *writer) stmt(deep int) api.Stmt {
	w.part()
	kind := 1 + w.below(7)
	if deep == 0 && kind == api.If {
		kind = api.Set
	}
	s := api.Stmt{Kind: kind}
	switch kind {
	case api.If:
		w.put("if")
		s.Args = []api.Expr{w.expr(2, 0)}
		s.Then = w.block(deep - 1)
		if w.below(2) == 0 {
			w.put("else")
			s.Else = w.block(deep - 1)
		}
		return s
	case api.Fence:
		w.put("fence")
		s.Mode = w.mode()
	case api.Store:
		w.put("store")
		s.Mode, s.Loc = w.mode(), w.name()
		s.Args = []api.Expr{w.expr(3, 0)}
	default:
		s.Reg = w.name()
		w.put("=")
		w.right(&s)
	}
	w.put(";")
	return s
}

func (w *writer) right(s *api.Stmt) {
	if s.Kind != api.Set {
		w.put([]string{2: "load", 4: "add", 5: "cas"}[s.Kind])
		s.Mode, s.Loc = w.mode(), w.name()
	}
	if s.Kind != api.Load {
		s.Args = []api.Expr{w.expr(3, 0)}
	}
	if s.Kind == api.Cas {
		w.put(",")
		s.Args = append(s.Args, w.expr(3, 0))
	}
}

func (w *writer) program() api.Prog {
	var p api.Prog
	w.part()
	w.put("litmus")
	p.Name = w.name()
	w.put("values")
	p.Vals = w.number()
	for range w.below(4) {
		w.part()
		w.put("init")
		loc := w.name()
		p.Init = append(p.Init, api.Cell{Loc: loc, N: w.number()})
	}
	for range w.below(4) {
		w.put("thread")
		p.Threads = append(p.Threads, w.block(3))
	}
	w.part()
	p.Ask = 1 + w.below(2)
	w.put([]string{1: "exists", 2: "forall"}[p.Ask])
	p.Cond = w.cond(4, 0)
	return p
}

// newProgram is a program, the tokens of its text, and at which of them its parts begin.
func newProgram(seed int) (api.Prog, []string, []int) {
	w := &writer{mixed: mixed(seed)}
	w.below(2)
	p := w.program()
	return p, w.tokens, w.parts
}

// laid is tokens as a text, with something between all of them (around them, too), and where each begins.
func laid(tokens []string, between func() string) (string, []int) {
	var b strings.Builder
	var at []int
	for _, t := range tokens {
		b.WriteString(between())
		at = append(at, b.Len())
		b.WriteString(t)
	}
	b.WriteString(between())
	return b.String(), at
}
