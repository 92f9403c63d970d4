package lex

import (
	"math/big"
	"regexp"
	"slices"
	"strconv"
	"strings"
	"testing"

	"withe/api"
)

const most = "4611686018427387904" // MaxNum in digits

func word(s string, at int) api.Token { return api.Token{Kind: api.Word, Text: s, At: at} }

func number(s string, n, at int) api.Token {
	return api.Token{Kind: api.Number, Text: s, N: n, At: at}
}

func sign(s string, at int) api.Token { return api.Token{Kind: api.Sign, Text: s, At: at} }

func end(at int) api.Token { return api.Token{Kind: api.End, At: at} }

// list is tokens as a list, so that rows of a table stay short.
func list(t ...api.Token) []api.Token { return t }

func wantTokens(t *testing.T, text string, want []api.Token) {
	t.Helper()
	got, f := Lex(text)
	if f != (api.Fault{}) || !slices.Equal(got, want) {
		t.Errorf("Lex(%.80q) = %v, %v, not %v", text, got, f, want)
	}
}

func wantFault(t *testing.T, text string, err api.Errno, at int) {
	t.Helper()
	got, f := Lex(text)
	if want := (api.Fault{Err: err, At: at}); f != want || len(got) != 0 {
		t.Errorf("Lex(%.80q) = %v, %v, not %v alone", text, got, f, want)
	}
}

func TestOrdinaryTexts(t *testing.T) {
	wantTokens(t, "r1=0", list(word("r1", 0), sign("=", 2), number("0", 0, 3), end(4)))
	wantTokens(t, "store rlx x r+1; // one more\nfence sc;", list(
		word("store", 0), word("rlx", 6), word("x", 10), word("r", 12), sign("+", 13), number("1", 1, 14), sign(";", 15),
		word("fence", 29), word("sc", 35), sign(";", 37), end(38)))
	wantTokens(t, "exists 0:a == 1", list(
		word("exists", 0), number("0", 0, 7), sign(":", 8), word("a", 9), sign("==", 11), number("1", 1, 14), end(15)))
}

func TestBetweenTokens(t *testing.T) {
	for _, c := range []struct {
		name, text string
	}{
		{"nothing", ""},
		{"a blank", " "},
		{"blanks", "   "},
		{"tabs", "\t\t"},
		{"line feeds", "\n\n\n"},
		{"carriage returns", "\r\r"},
		{"all of them", " \t\n\r\r\n\t "},
		{"a remark of nothing", "//"},
		{"a remark up to the end", "// a == ? _ 99999999999999999999"},
		{"a remark up to a line feed", "// a == ?\n"},
		{"a remark behind a remark", "// a\n// b\n//c"},
		{"a remark in a remark", "// a // b\n"},
		{"three /", "///"},
		{"a carriage return ends no remark", "//\r?"},
		{"any bytes in a remark", "//\x00\x7f\x80\xff\u00e9_/"},
		{"blanks around remarks", " \t// a\n \r// b\n\t"},
	} {
		t.Run(c.name, func(t *testing.T) {
			wantTokens(t, c.text, list(end(len(c.text))))
			wantTokens(t, "a"+c.text, list(word("a", 0), end(1+len(c.text))))
			n := len(c.text) + 1
			wantTokens(t, c.text+"\na", list(word("a", n), end(n+1)))
		})
	}
	wantTokens(t, "a//b\nc", list(word("a", 0), word("c", 5), end(6)))
	wantTokens(t, "7//8\n9", list(number("7", 7, 0), number("9", 9, 5), end(6)))
	wantTokens(t, "=//=\n=", list(sign("=", 0), sign("=", 5), end(6)))
}

func TestSingleSlash(t *testing.T) {
	wantFault(t, "/", api.ErrForm, 0)
	wantFault(t, "a/", api.ErrForm, 1)
	wantFault(t, "a / b", api.ErrForm, 2)
	wantFault(t, "/ /", api.ErrForm, 0)
	wantFault(t, "/\n/", api.ErrForm, 0)
	wantFault(t, "// a\n/", api.ErrForm, 5)
}

func TestWords(t *testing.T) {
	for c := range 256 {
		s := string([]byte{byte(c)})
		isLetter := strings.Contains("ABCDEFGHIJKLMNOPQRSTUVWXYZabcdefghijklmnopqrstuvwxyz", s)
		got, f := Lex(s)
		if (f.Err == api.OK && got[0].Kind == api.Word) != isLetter {
			t.Errorf("Lex(%q) = %v, %v", s, got, f)
		}
	}
	wantTokens(t, "AZaz09", list(word("AZaz09", 0), end(6)))
	wantTokens(t, "a1b2", list(word("a1b2", 0), end(4)))
	wantTokens(t, "12ab", list(number("12", 12, 0), word("ab", 2), end(4)))
	wantTokens(t, "0x1", list(number("0", 0, 0), word("x1", 1), end(3)))
	wantTokens(t, "if else", list(word("if", 0), word("else", 3), end(7)))
	long := strings.Repeat("a", api.MaxText)
	wantTokens(t, long, list(word(long, 0), end(api.MaxText)))
	wantFault(t, "a_b", api.ErrForm, 1)
}

func TestSigns(t *testing.T) {
	for _, s := range strings.Fields("{ } ( ) ; , : = == < + -") {
		n := len(s)
		wantTokens(t, s, list(sign(s, 0), end(n)))
		wantTokens(t, "a"+s+"1", list(word("a", 0), sign(s, 1), number("1", 1, 1+n), end(2+n)))
	}
	wantTokens(t, "= =", list(sign("=", 0), sign("=", 2), end(3)))
	wantTokens(t, "=\n=", list(sign("=", 0), sign("=", 2), end(3)))
	wantTokens(t, "===", list(sign("==", 0), sign("=", 2), end(3)))
	wantTokens(t, "====", list(sign("==", 0), sign("==", 2), end(4)))
	wantTokens(t, "<==", list(sign("<", 0), sign("==", 1), end(3)))
	wantTokens(t, "==<", list(sign("==", 0), sign("<", 2), end(3)))
	wantTokens(t, "+-++--", list(sign("+", 0), sign("-", 1), sign("+", 2), sign("+", 3), sign("-", 4), sign("-", 5), end(6)))
	wantTokens(t, "-1", list(sign("-", 0), number("1", 1, 1), end(2)))
	var all []api.Token
	for i, c := range "{}();,:<+-=" {
		all = append(all, sign(string(c), i))
	}
	wantTokens(t, "{}();,:<+-=", append(all, end(11)))
}

func TestNumbers(t *testing.T) {
	for _, c := range []struct {
		text string
		n    int
	}{
		{"0", 0}, {"1", 1}, {"9", 9}, {"10", 10}, {"0123456789", 123456789},
		{"00", 0}, {"007", 7},
		{strings.Repeat("0", 100), 0},
		{strings.Repeat("0", 100) + most, api.MaxNum},
		{strings.Repeat("0", api.MaxText-1) + "5", 5},
		{"4611686018427387903", api.MaxNum - 1},
		{"4611686018427387899", api.MaxNum - 5},
		{most, api.MaxNum},
	} {
		wantTokens(t, c.text, list(number(c.text, c.n, 0), end(len(c.text))))
	}
	for _, text := range []string{
		"4611686018427387905", "4611686018427387909", "4611686018427387910", "4611686018427387914",
		"5000000000000000000", "9223372036854775807", "9223372036854775808", "9999999999999999999",
		"18446744073709551616", "18446744073709551617", "46116860184273879040",
		"0004611686018427387905",
		strings.Repeat("9", api.MaxText),
		"1" + strings.Repeat("0", api.MaxText-1),
	} {
		wantFault(t, text, api.ErrLong, 0)
	}
	wantFault(t, "a  4611686018427387905", api.ErrLong, 3)
	wantFault(t, "a4611686018427387905=4611686018427387905;", api.ErrLong, 21)
}

func TestBytesThatBeginNoToken(t *testing.T) {
	const begin = "ABCDEFGHIJKLMNOPQRSTUVWXYZabcdefghijklmnopqrstuvwxyz0123456789{}();,:=<+- \t\n\r"
	for c := range 256 {
		s := string([]byte{byte(c)})
		if strings.Contains(begin, s) {
			if _, f := Lex(s); f != (api.Fault{}) {
				t.Errorf("Lex(%q): %v", s, f)
			}
			continue
		}
		wantFault(t, s, api.ErrForm, 0)
		wantFault(t, s+" a", api.ErrForm, 0)
		wantFault(t, "ab"+s+"1", api.ErrForm, 2)
		wantFault(t, "a 12 "+s+" b", api.ErrForm, 5)
		wantFault(t, "a == 12"+s, api.ErrForm, 7)
		wantFault(t, "// "+s+"\n"+s, api.ErrForm, 5)
	}
	wantFault(t, "\u00e9", api.ErrForm, 0)
	wantFault(t, "a\u00e9", api.ErrForm, 1)
	wantFault(t, "\ufeffa", api.ErrForm, 0)
	wantFault(t, "\u0661", api.ErrForm, 0) // a digit, but of no text of ours
	wantFault(t, "a\u00a0b", api.ErrForm, 1)
}

func TestWhichFaultComesFirst(t *testing.T) {
	wantFault(t, "99999999999999999999 ?", api.ErrLong, 0)
	wantFault(t, "99999999999999999999?", api.ErrLong, 0)
	wantFault(t, "? 99999999999999999999", api.ErrForm, 0)
	wantFault(t, "a ?99999999999999999999", api.ErrForm, 2)
	wantFault(t, "a ! ?", api.ErrForm, 2)
	wantFault(t, "1 99999999999999999999 88888888888888888888", api.ErrLong, 2)
}

func TestLongTexts(t *testing.T) {
	wantTokens(t, strings.Repeat(" ", api.MaxText), list(end(api.MaxText)))
	wantTokens(t, "//"+strings.Repeat("?", api.MaxText-2), list(end(api.MaxText)))
	wantFault(t, strings.Repeat(" ", api.MaxText-1)+"?", api.ErrForm, api.MaxText-1)
	wantFault(t, strings.Repeat(" ", api.MaxText+1), api.ErrLong, 0)
	wantFault(t, strings.Repeat("a ", api.MaxText), api.ErrLong, 0)
	wantFault(t, "?"+strings.Repeat(" ", api.MaxText), api.ErrLong, 0)
	wantFault(t, "//"+strings.Repeat("a", api.MaxText), api.ErrLong, 0)
	wantFault(t, strings.Repeat(" ", api.MaxText)+"9", api.ErrLong, 0)
	got, f := Lex(strings.Repeat("=;", api.MaxText/2))
	if f != (api.Fault{}) || len(got) != api.MaxText+1 || got[api.MaxText] != end(api.MaxText) {
		t.Errorf("a text of signs alone: %d tokens, %v", len(got), f)
	}
}

// model is Lex by patterns.
type model struct {
	between, token *regexp.Regexp
}

func newModel() model {
	return model{
		regexp.MustCompile(`\A(?:[ \t\n\r]|//[^\n]*)*`),
		regexp.MustCompile(`\A(?:([A-Za-z][A-Za-z0-9]*)|([0-9]+)|(==|[{}();,:=<+-]))`),
	}
}

func (m model) lex(text string) ([]api.Token, api.Fault) {
	if len(text) > 4096 {
		return nil, api.Fault{Err: api.ErrLong}
	}
	var out []api.Token
	at := 0
	for {
		at += len(m.between.FindString(text[at:]))
		if at == len(text) {
			return append(out, end(at)), api.Fault{}
		}
		part := m.token.FindStringSubmatch(text[at:])
		if part == nil {
			return nil, api.Fault{Err: api.ErrForm, At: at}
		}
		t := api.Token{Text: part[0], At: at}
		t.Kind = 1 + slices.IndexFunc(part[1:], func(s string) bool { return s != "" })
		if t.Kind == api.Number {
			n, _ := new(big.Int).SetString(t.Text, 10)
			if n.Cmp(big.NewInt(1<<62)) > 0 {
				return nil, api.Fault{Err: api.ErrLong, At: at}
			}
			t.N = int(n.Int64())
		}
		out = append(out, t)
		at += len(t.Text)
	}
}

func (m model) check(t *testing.T, text string) {
	t.Helper()
	want, fault := m.lex(text)
	got, f := Lex(text)
	if f != fault || !slices.Equal(got, want) {
		t.Fatalf("Lex(%q) = %v, %v, not %v, %v", text, got, f, want, fault)
	}
}

// eachText calls f with every text of at most n of the pieces.
func eachText(pieces []string, n int, f func(string)) {
	var from func(head string, left int)
	from = func(head string, left int) {
		f(head)
		if left == 0 {
			return
		}
		for _, p := range pieces {
			from(head+p, left-1)
		}
	}
	from("", n)
}

func TestAgainstModel(t *testing.T) {
	m := newModel()
	eachText(strings.Split(" \n/aZ09=<?", ""), 4, func(text string) { m.check(t, text) })
	eachText([]string{"461168601842738790", "4", "5", "0", " ", "x", "//", "\n", "==", "\xff"}, 4, func(text string) { m.check(t, text) })
}

func TestPairsOfBytes(t *testing.T) {
	m := newModel()
	for a := range 256 {
		for b := range 256 {
			m.check(t, string([]byte{byte(a), byte(b)}))
		}
	}
}

// mixed is a row of numbers without order, the same at each run.
type mixed uint64

func (m *mixed) below(n int) int {
	*m = *m*6364136223846793005 + 1442695040888963407
	return int(uint64(*m) >> 33 % uint64(n))
}

func (m *mixed) text(pieces []string, n int) string {
	var b strings.Builder
	for range n {
		b.WriteString(pieces[m.below(len(pieces))])
	}
	return b.String()
}

func fairPieces() []string {
	return []string{" ", "\t", "\n", "\r\n", "// ?\n", "a", "Zx", "r1", "litmus", "0", "7", "10", most, "{", "}", "(", ")", ";", ",", ":", "=", "==", "<", "+", "-", ";\n"}
}

func TestLongerTextsAgainstModel(t *testing.T) {
	m, src := newModel(), mixed(6)
	pieces := append(fairPieces(), "?", "/", "//", "\x80", most)
	for i := range 3000 {
		m.check(t, src.text(fairPieces(), i%60))
		m.check(t, src.text(pieces, i%30))
	}
}

// What follows: tokens and what stands between them make up the text.
func TestTokensMakeUpTheText(t *testing.T) {
	src := mixed(7)
	blank := regexp.MustCompile(`\A(?:[ \t\n\r]|//[^\n]*(?:\n|\z))*\z`)
	for i := range 2000 {
		text := src.text(append(fairPieces(), "//x\n"), i%50)
		tokens, f := Lex(text)
		if f.Err != api.OK {
			continue // digits side by side may be too many
		}
		at := 0
		for _, k := range tokens {
			if k.At < at || !blank.MatchString(text[at:k.At]) || text[k.At:k.At+len(k.Text)] != k.Text {
				t.Fatalf("%q: %v does not stand there", text, k)
			}
			if n, err := strconv.Atoi(k.Text); k.Kind == api.Number && (err != nil || n != k.N) || k.Kind != api.Number && k.N != 0 {
				t.Fatalf("%q: %v", text, k)
			}
			at = k.At + len(k.Text)
		}
		if last := tokens[len(tokens)-1]; last != end(len(text)) {
			t.Fatalf("%q ends with %v", text, last)
		}
	}
}

// What follows: a text behind a token that is parted from it brings its own tokens.
func TestTextsBehindOneAnother(t *testing.T) {
	src := mixed(8)
	for i := range 2000 {
		a, b := src.text(fairPieces(), i%20), src.text(append(fairPieces(), "?"), i%17)
		head, f := Lex(a)
		if f.Err != api.OK {
			continue
		}
		for _, part := range []string{"\n", "\n \t", "\n// = ?\n"} {
			behind, f := Lex(b)
			all, g := Lex(a + part + b)
			by := len(a) + len(part)
			if f.Err != api.OK {
				if g != (api.Fault{Err: f.Err, At: f.At + by}) {
					t.Fatalf("%q behind %q: %v, not %v, %d further on", b, a, g, f, by)
				}
				continue
			}
			for j := range behind {
				behind[j].At += by
			}
			if g.Err != api.OK || !slices.Equal(all, append(head[:len(head)-1:len(head)-1], behind...)) {
				t.Fatalf("%q behind %q: %v, %v", b, a, all, g)
			}
		}
	}
}

// What is told is new memory each time: what is done to one answer is not seen in the next.
func TestAnswersAreNew(t *testing.T) {
	const text = "a = 1"
	first, _ := Lex(text)
	again, _ := Lex(text)
	for i := range first {
		first[i] = api.Token{Kind: 9}
	}
	_ = append(first[:0], api.Token{}, api.Token{}, api.Token{}, api.Token{})
	third, _ := Lex(text)
	want := list(word("a", 0), sign("=", 2), number("1", 1, 4), end(5))
	if !slices.Equal(again, want) || !slices.Equal(third, want) {
		t.Errorf("%v, then %v, not %v", again, third, want)
	}
}

func keywords() []string {
	return strings.Fields("litmus values init thread load add cas store fence if else exists forall and or not rlx acq rel acqrel sc")
}

func TestKeyword(t *testing.T) {
	for _, k := range keywords() {
		if !Keyword(k) {
			t.Errorf("%s is a keyword", k)
		}
		near := []string{k + "s", k + "1", k + " ", " " + k, k[:len(k)-1], k[1:], strings.ToUpper(k), strings.ToUpper(k[:1]) + k[1:], k + "\x00", k + k}
		for _, s := range near {
			if Keyword(s) != slices.Contains(keywords(), s) {
				t.Errorf("Keyword(%q) = %v", s, Keyword(s))
			}
		}
	}
	for _, s := range []string{"", "a", "r1", "x", "0", "=", "true", "let", "release", "acquire", "relaxed", "acq_rel", "while", "xor"} {
		if Keyword(s) {
			t.Errorf("%q is no keyword", s)
		}
	}
}

func TestName(t *testing.T) {
	for _, c := range []struct {
		s  string
		ok bool
	}{
		{"a", true}, {"Z", true}, {"z9", true}, {"A0b1C2d3", true}, {"r10", true},
		{"abcdefgh", true}, {"abcdefghi", false}, {"a1234567", true}, {"a12345678", false},
		{strings.Repeat("a", api.MaxText+1), false},
		{"", false}, {" ", false}, {"9a", false}, {"9", false}, {"0", false}, {"=", false}, {"==", false},
		{"a b", false}, {" a", false}, {"a ", false}, {"a\n", false}, {"a//", false}, {"//a", false},
		{"a_b", false}, {"_a", false}, {"a?", false}, {"a=", false}, {"a\x00", false}, {"\u00e9", false}, {"a\u00e9", false}, {"\xff", false},
		{"Load", true}, {"SC", true}, {"scs", true}, {"s", true}, {"ifelse", true}, {"acq1", true},
	} {
		if Name(c.s) != c.ok {
			t.Errorf("Name(%.40q) = %v", c.s, !c.ok)
		}
	}
	for _, k := range keywords() {
		if Name(k) {
			t.Errorf("%s is a keyword, and no name", k)
		}
		if up := strings.ToUpper(k); !Name(up) {
			t.Errorf("%s is a name", up)
		}
	}
}

// A name is what Lex tells as one word, the text whole, unless it is too long or a keyword.
func TestNamesAreWords(t *testing.T) {
	pieces := append(strings.Split("aZ09 _=/\n", ""), "sc", "abcdefg")
	eachText(pieces, 4, func(s string) {
		tokens, _ := Lex(s)
		is := len(tokens) == 2 && tokens[0] == word(s, 0) && len(s) <= 8 && !slices.Contains(keywords(), s)
		if Name(s) != is {
			t.Fatalf("Name(%q) = %v", s, !is)
		}
	})
}
