package parse

import (
	"reflect"
	"slices"
	"strings"
	"testing"

	"withe/api"
	"withe/lex"
)

func words(text string) []string {
	tokens, _ := lex.Lex(text)
	var l []string
	for _, k := range tokens[:len(tokens)-1] {
		l = append(l, k.Text)
	}
	return l
}

func blank() string { return " " }

// eachRow calls f with every row of at most n of the texts.
func eachRow(texts []string, n int, f func([]string)) {
	var from func(row []string)
	from = func(row []string) {
		f(row)
		if len(row) == n {
			return
		}
		for _, s := range texts {
			from(append(row[:len(row):len(row)], s))
		}
	}
	from(nil)
}

// faulty holds a text against the grammar alone, and tells whether it is refused.
func (r recognizer) faulty(t *testing.T, text string) bool {
	t.Helper()
	want := r.faultOf(text)
	wantFault(t, text, want)
	if t.Failed() {
		t.FailNow()
	}
	return want.Err != api.OK
}

func TestShortExpressionsAgainstModel(t *testing.T) {
	m := newRecognizer()
	const ahead = head + "thread { r = "
	fair := 0
	eachRow([]string{"a", "1", "+", "-", "==", "<", "(", ")"}, 5, func(row []string) {
		text := strings.Join(row, " ")
		if m.faulty(t, ahead+text+" ; }"+tail) {
			return
		}
		fair++
		p, _ := Parse(ahead + text + " ; }" + tail)
		tokens, _ := lex.Lex(text)
		if want := exprBySplit(tokens[:len(tokens)-1]); !reflect.DeepEqual(p.Threads[0][0].Args, args(want)) {
			t.Fatalf("%s: %v, not %v", text, p.Threads[0][0].Args, want)
		}
	})
	if fair < 100 {
		t.Errorf("only %d were expressions", fair)
	}
}

func TestShortConditionsAgainstModel(t *testing.T) {
	m := newRecognizer()
	fair := 0
	eachRow([]string{"x == 1", "0:r == 2", "not", "and", "or", "(", ")"}, 5, func(row []string) {
		text := strings.Join(row, " ")
		if m.faulty(t, head+"exists "+text) {
			return
		}
		fair++
		p, _ := Parse(head + "exists " + text)
		tokens, _ := lex.Lex(text)
		if want := condBySplit(tokens[:len(tokens)-1]); !reflect.DeepEqual(p.Cond, want) {
			t.Fatalf("%s: %v, not %v", text, p.Cond, want)
		}
	})
	if fair < 50 {
		t.Errorf("only %d were conditions", fair)
	}
	eachRow([]string{"x", "0", "==", ":", "not", "(", ")", "=", "and"}, 4, func(row []string) {
		m.faulty(t, head+"forall "+strings.Join(row, " "))
	})
}

// every is one of each kind of token: all keywords, all signs, a name, a number.
func every() []string {
	return append(keywords(), strings.Fields("a 7 { } ( ) ; , : = == < + -")...)
}

func TestShortRowsOfAllTokens(t *testing.T) {
	m := newRecognizer()
	for _, ahead := range []string{
		"", "litmus a values 1", head + "init x 0", head + "thread {", head + "thread { r =", head + "thread { r = load", head + "thread { store sc", head + "thread { r = cas sc x 1",
		head + "thread { fence", head + "thread { if 1", head + "thread { if 1 { }", head + "thread { }", head + "exists", head + "exists 0", head + "exists x == 1",
	} {
		eachRow(every(), 2, func(row []string) { m.faulty(t, ahead+" "+strings.Join(row, " ")) })
	}
}

func programs() [][]string {
	l := [][]string{
		words(full), words(head + tail), words("litmus a values 2 init x 0 thread { store sc x 1; r = load sc x; } exists 0:r == 1"),
		words(head + "init x 0 init y 1 thread { r = cas acq x (1 + r), 2 - 3; } thread { if r < 1 { } else { s = add rel y 1; } fence acqrel; } forall not (0:r == 1 or x == 1) and y == 0"),
	}
	for seed := range 12 {
		_, tokens, _ := newProgram(100 + seed)
		if len(tokens) < 60 {
			l = append(l, tokens)
		}
	}
	return l
}

func (r recognizer) check(t *testing.T, tokens []string) {
	t.Helper()
	text, _ := laid(tokens, blank)
	r.faulty(t, text)
}

func TestTokensDroppedDoubledOthers(t *testing.T) {
	m := newRecognizer()
	for _, l := range programs() {
		m.check(t, l)
		for i := range l {
			m.check(t, slices.Delete(slices.Clone(l), i, i+1))
			m.check(t, slices.Insert(slices.Clone(l), i, l[i]))
			m.check(t, slices.Concat(l[:i], []string{l[len(l)-1-i]}, l[i+1:]))
			if i > 0 {
				m.check(t, slices.Concat(l[:i-1], []string{l[i], l[i-1]}, l[i+1:]))
			}
			for _, s := range every() {
				m.check(t, slices.Concat(l[:i], []string{s}, l[i+1:]))
				m.check(t, slices.Insert(slices.Clone(l), i, s))
			}
		}
		for _, s := range every() {
			m.check(t, append(slices.Clone(l), s))
		}
	}
}

func TestEndsTooEarly(t *testing.T) {
	m := newRecognizer()
	for _, l := range programs() {
		for i := range l {
			for _, rest := range []string{"", " ", "\n\t\r\n", " // a remark", "// a remark\n"} {
				text := strings.Join(l[:i], " ") + rest
				want := m.faultOf(text)
				if want.Err != api.OK && want.At != len(text) {
					t.Fatalf("%q: the model says %v", text, want)
				}
				wantFault(t, text, want)
			}
		}
	}
}

func TestWrittenPrograms(t *testing.T) {
	for seed := range 3000 {
		p, tokens, parts := newProgram(seed)
		text, at := laid(tokens, blank)
		if len(text) > api.MaxText {
			continue
		}
		got, f := Parse(text)
		if f != (api.Fault{}) || !same(got, p) {
			t.Fatalf("Parse(%q) = %v, %v, not %v", text, got, f, p)
		}
		var want []int
		for _, i := range parts {
			want = append(want, at[i])
		}
		if l, f := Places(text); f != (api.Fault{}) || !slices.Equal(l, want) {
			t.Fatalf("Places(%q) = %v, %v, not %v", text, l, f, want)
		}
	}
}

// What follows: comments and blanks change nothing but places.
func TestBlanksAndRemarks(t *testing.T) {
	src := mixed(7)
	between := []func() string{
		func() string { return "\n" },
		func() string { return "\r\n\t " },
		func() string { return "// r = 1; ? ^\n" },
		func() string { return pick(&src, " ", "\t", "\n", "\r", "//\n", " // } exists x == 1\n", "  \n\n") },
	}
	for seed := range 300 {
		p, tokens, parts := newProgram(5000 + seed)
		if len(tokens) > 200 {
			continue
		}
		for _, f := range between {
			text, at := laid(tokens, f)
			wantProg(t, text, p)
			l, _ := Places(text)
			if len(l) != len(parts) {
				t.Fatalf("%q has %d parts, not %d", text, len(l), len(parts))
			}
			for i, k := range parts {
				if l[i] != at[k] {
					t.Fatalf("%q: part %d begins at %d, not %d", text, i, l[i], at[k])
				}
			}
		}
	}
}

// A text without a blank that is not needed is the same program.
func TestTightTexts(t *testing.T) {
	for seed := range 300 {
		p, tokens, _ := newProgram(9000 + seed)
		var b strings.Builder
		for i, s := range tokens {
			if i > 0 && needsBlank(tokens[i-1], s) {
				b.WriteByte(' ')
			}
			b.WriteString(s)
		}
		if b.Len() <= api.MaxText {
			wantProg(t, b.String(), p)
		}
	}
}

// needsBlank tells whether two texts side by side would be read as others.
func needsBlank(a, b string) bool {
	l, f := lex.Lex(a + b)
	return f.Err != api.OK || len(l) != 3 || l[0].Text != a
}

// What follows: what is refused is refused at a place of the text where a token begins, or at its end.
func TestPlacesOfFaults(t *testing.T) {
	src := mixed(9)
	pieces := append(every(), "\n", "// a\n", "litmus a values 2", "thread {", "exists x == 1")
	for i := range 5000 {
		var l []string
		if i%2 == 0 {
			l = append(l, "litmus", "a", "values", "2")
		}
		for range src.below(12) {
			l = append(l, pick(&src, pieces...))
		}
		text := strings.Join(l, " ")
		_, f := Parse(text)
		tokens, g := lex.Lex(text)
		if g.Err != api.OK {
			t.Fatalf("%q: %v", text, g)
		}
		begins := slices.ContainsFunc(tokens, func(k api.Token) bool { return k.At == f.At })
		if f != (api.Fault{}) && (f.Err != api.ErrForm || !begins) {
			t.Fatalf("%q is refused by %v", text, f)
		}
		wantFault(t, text, f)
	}
}

func TestPlacesOfParts(t *testing.T) {
	for _, c := range []string{
		"^litmus a values 2 ^exists x == 1",
		" // a\n ^litmus a values 2 // b\n ^forall x == 1",
		"^litmus a values 2 ^init x 0 ^init y 1 ^exists x == 1",
		"^litmus a values 2 thread { } thread { } ^exists x == 1",
		"^litmus a values 2\n^init x 0\nthread {\n  ^r = 1;\n  ^s = load sc x;\n}\nthread {\n  ^store rlx x 1; ^fence sc;\n}\n^exists x == 1\n",
		"^litmus a values 2 thread{^if 1{^a=1;^b=2;}^c=3;}^exists x == 1",
		"^litmus a values 2 thread { ^if 1 { } ^if 2 { } else { } } ^exists x == 1",
		"^litmus a values 2 thread { ^if 1 { ^if 2 { ^a = 1; } else { ^b = 1; } ^c = 1; } else { ^d = 1; ^if 3 { } else { ^if 4 { ^e = 1; } } ^f = 1; } ^g = 1; } ^exists not x == 1",
		"^litmus a values 2 thread { ^r = add sc x 1; ^r = cas sc x 1, 2; } thread { } thread { ^r = 1; } ^exists (0:r == 1)",
	} {
		var want []int
		text := c
		for at := strings.IndexByte(text, '^'); at >= 0; at = strings.IndexByte(text, '^') {
			want = append(want, at)
			text = text[:at] + text[at+1:]
		}
		if l, f := Places(text); f != (api.Fault{}) || !slices.Equal(l, want) {
			t.Errorf("Places(%q) = %v, %v, not %v", text, l, f, want)
		}
	}
}

// scribble writes over all lists of v, their spare room too.
func scribble(v reflect.Value) {
	switch v.Kind() {
	case reflect.Struct:
		for i := range v.NumField() {
			scribble(v.Field(i))
		}
	case reflect.Slice:
		for i := range v.Len() {
			scribble(v.Index(i))
		}
		all := v.Slice(0, v.Cap())
		for i := range all.Len() {
			all.Index(i).SetZero()
		}
	}
}

func TestAnswersAreNew(t *testing.T) {
	first, _ := Parse(full)
	places, _ := Places(full)
	again, _ := Parse(full)
	wasPlaces := slices.Clone(places)
	scribble(reflect.ValueOf(&first).Elem())
	clear(places[:cap(places)])
	third, _ := Parse(full)
	now, _ := Places(full)
	if !same(again, third) || same(again, first) || !slices.Equal(now, wasPlaces) {
		t.Errorf("what was done to an answer is seen in others: %v, %v", again, third)
	}
}

// lists calls f with each list of v, the outer ones first.
func lists(v reflect.Value, f func(reflect.Value)) {
	switch v.Kind() {
	case reflect.Struct:
		for i := range v.NumField() {
			lists(v.Field(i), f)
		}
	case reflect.Slice:
		f(v)
		for i := range v.Len() {
			lists(v.Index(i), f)
		}
	}
}

func TestAnswersShareNothingWithThemselves(t *testing.T) {
	for seed := range 200 {
		_, tokens, _ := newProgram(seed)
		p, _ := Parse(strings.Join(tokens, " "))
		type span struct{ from, to uintptr }
		var spans []span
		lists(reflect.ValueOf(p), func(l reflect.Value) {
			if l.Cap() > 0 {
				spans = append(spans, span{l.Pointer(), l.Pointer() + uintptr(l.Cap())*l.Type().Elem().Size()})
			}
		})
		slices.SortFunc(spans, func(a, b span) int { return int(a.from) - int(b.from) })
		for i := 1; i < len(spans); i++ {
			if spans[i].from < spans[i-1].to {
				t.Fatalf("two lists of %v share memory", p)
			}
		}
	}
}
