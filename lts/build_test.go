package lts_test

import (
	"fmt"
	"slices"
	"strings"
	"testing"

	"withe/api"
	"withe/check"
	"withe/lts"
)

// The document's example.
func TestExample(t *testing.T) {
	p := prog(t, "values 2 init x 0", "r = load sc x;")
	wantNodes(t, p, "write rlx 0 0", "0: begin", "0: 1 read sc 0 0 end 0", "0: 1 read sc 0 1 end 1")
	x := built(t, p)
	if x.Vals != 2 || !slices.Equal(x.Locs, []string{"x"}) || fmt.Sprintf("%q", x.Regs) != `[["r"]]` {
		t.Error(texts(x))
	}
}

func TestHeads(t *testing.T) {
	for _, c := range []struct {
		head, locs string
		first      []string
	}{
		{"values 2 init x 0", "x", []string{"write rlx 0 0"}},
		{"values 2 init x 1", "x", []string{"write rlx 0 1"}},
		{"values 3 init z 2 init x 1 init y 0", "z x y", []string{"write rlx 0 2", "write rlx 1 1", "write rlx 2 0"}},
		{"values 4 init b 3 init a 0 init x 3 init A 1", "b a x A", []string{"write rlx 0 3", "write rlx 1 0", "write rlx 2 3", "write rlx 3 1"}},
	} {
		p := prog(t, c.head, "")
		x := built(t, p)
		if x.Vals != p.Vals || strings.Join(x.Locs, " ") != c.locs {
			t.Errorf("%s: %s", c.head, texts(x))
		}
		wantNodes(t, p, append(c.first, "0: begin end")...)
	}
}

func TestNoLocations(t *testing.T) {
	p := api.Prog{Name: "a", Vals: 2, Threads: [][]api.Stmt{{{Kind: api.Set, Reg: "r", Args: []api.Expr{{Op: api.Num, N: 1}}}}, {{Kind: api.Fence, Mode: api.Sc}}}, Ask: api.Forall, Cond: api.Cond{Op: api.RegIs, Name: "r"}}
	wantNodes(t, p, "0: begin end 1", "1: begin", "1: 1 bar sc end")
	if x := built(t, p); len(x.Locs) != 0 || fmt.Sprintf("%q", x.Regs) != `[["r"] []]` {
		t.Error(texts(x))
	}
}

// A Store, a Load, a Fence of each thread are its own, and all threads' nodes stand one thread behind the other.
func TestThreads(t *testing.T) {
	p := prog(t, "values 2 init x 0 init y 1", "store rlx x 1;", "", "r = load acq y; fence sc;", "s = 1;")
	wantNodes(t, p, "write rlx 0 0", "write rlx 1 1",
		"0: begin", "0: 2 write rlx 0 1 end",
		"1: begin end",
		"2: begin", "2: 5 read acq 1 0", "2: 6 bar sc end 0", "2: 5 read acq 1 1", "2: 8 bar sc end 1",
		"3: begin end 1")
	if x := built(t, p); fmt.Sprintf("%q", x.Regs) != `[[] [] ["r"] ["s"]]` {
		t.Error(texts(x))
	}
}

func TestThreadsWithoutAccesses(t *testing.T) {
	wantThread(t, 2, "", "0: begin end")
	wantThread(t, 2, "r = 1;", "0: begin end 1")
	wantThread(t, 2, "if 0 { store rlx x 1; }", "0: begin end")
	wantThread(t, 2, "if 1 { } else { r = load rlx x; }", "0: begin end 0")
	wantThread(t, 4, "r = 3; s = r - 1; if s == 2 { q = r + s; } else { fence sc; }", "0: begin end 3 2 1")
}

func TestSets(t *testing.T) {
	wantThread(t, 4, "a = 3; store rlx x a; a = 1; store rlx x a;", "0: begin", "0: 2 write rlx 0 3", "0: 3 write rlx 0 1 end 1")
	wantThread(t, 4, "a = 1; a = a + a; a = a + a;", "0: begin end 0")
	wantThread(t, 4, "b = 1; a = b + 1; b = a + b;", "0: begin end 3 2")
	wantThread(t, 2, "a = load rlx x; a = 1 - a;", "0: begin", "0: 2 read rlx 0 0 end 1", "0: 2 read rlx 0 1 end 0")
}

// A register that is set twice has what it was set to last; one that no statement on the way sets has 0.
func TestRegs(t *testing.T) {
	wantThread(t, 2, "a = load rlx x; if a { b = 1; } else { c = 1; } d = b + c;",
		"0: begin", "0: 2 read rlx 0 0 end 0 0 1 1", "0: 2 read rlx 0 1 end 1 1 0 1")
	wantThread(t, 3, "if 0 { a = 2; } b = a; c = 1 + a;", "0: begin end 0 0 1")
	wantThread(t, 3, "d = 1; c = 2; b = 1; a = 2;", "0: begin end 1 2 1 2")
	wantThread(t, 2, "a = load rlx x; a = load rlx y;",
		"0: begin", "0: 2 read rlx 0 0", "0: 3 read rlx 1 0 end 0", "0: 3 read rlx 1 1 end 1", "0: 2 read rlx 0 1", "0: 6 read rlx 1 0 end 0", "0: 6 read rlx 1 1 end 1")
	wantThread(t, 2, "a = 1; b = load rlx y; a = b;", "0: begin", "0: 2 read rlx 1 0 end 0 0", "0: 2 read rlx 1 1 end 1 1")
}

func TestRegsOfTheSameNameInTwoThreads(t *testing.T) {
	p := prog(t, "values 3 init x 0", "r = 2; s = 1;", "s = 0; r = s + 1; store sc x r;", "if 0 { r = 2; } store sc x r;")
	wantNodes(t, p, "write rlx 0 0", "0: begin end 2 1", "1: begin", "1: 2 write sc 0 1 end 0 1", "2: begin", "2: 4 write sc 0 0 end 0")
	if x := built(t, p); fmt.Sprintf("%q", x.Regs) != `[["r" "s"] ["s" "r"] ["r"]]` {
		t.Error(texts(x))
	}
}

func TestLoads(t *testing.T) {
	for _, mode := range []string{"rlx", "acq", "sc"} {
		wantThread(t, 2, "r = load "+mode+" x;", "0: begin", "0: 2 read "+mode+" 0 0 end 0", "0: 2 read "+mode+" 0 1 end 1")
		wantThread(t, 4, "r = load "+mode+" y;", "0: begin", "0: 2 read "+mode+" 1 0 end 0", "0: 2 read "+mode+" 1 1 end 1", "0: 2 read "+mode+" 1 2 end 2", "0: 2 read "+mode+" 1 3 end 3")
	}
	wantThread(t, 3, "r = load rlx x; s = load sc y;", "0: begin",
		"0: 2 read rlx 0 0", "0: 3 read sc 1 0 end 0 0", "0: 3 read sc 1 1 end 0 1", "0: 3 read sc 1 2 end 0 2",
		"0: 2 read rlx 0 1", "0: 7 read sc 1 0 end 1 0", "0: 7 read sc 1 1 end 1 1", "0: 7 read sc 1 2 end 1 2",
		"0: 2 read rlx 0 2", "0: 11 read sc 1 0 end 2 0", "0: 11 read sc 1 1 end 2 1", "0: 11 read sc 1 2 end 2 2")
}

func TestStores(t *testing.T) {
	for _, mode := range []string{"rlx", "rel", "sc"} {
		wantThread(t, 3, "store "+mode+" x 2; store "+mode+" y 0;", "0: begin", "0: 2 write "+mode+" 0 2", "0: 3 write "+mode+" 1 0 end")
		wantThread(t, 2, "r = load rlx x; store "+mode+" y r;", "0: begin", "0: 2 read rlx 0 0", "0: 3 write "+mode+" 1 0 end 0", "0: 2 read rlx 0 1", "0: 5 write "+mode+" 1 1 end 1")
		wantThread(t, 2, "r = 1; store "+mode+" x r + 1; store "+mode+" x 0 - r;", "0: begin", "0: 2 write "+mode+" 0 0", "0: 3 write "+mode+" 0 1 end 1")
	}
}

func TestFences(t *testing.T) {
	for _, mode := range []string{"acq", "rel", "acqrel", "sc"} {
		wantThread(t, 2, "fence "+mode+";", "0: begin", "0: 2 bar "+mode+" end")
		wantThread(t, 2, "r = load rlx x; fence "+mode+"; store rlx y r;", "0: begin",
			"0: 2 read rlx 0 0", "0: 3 bar "+mode, "0: 4 write rlx 1 0 end 0", "0: 2 read rlx 0 1", "0: 6 bar "+mode, "0: 7 write rlx 1 1 end 1")
	}
}

func TestAdds(t *testing.T) {
	for _, mode := range []string{"rlx", "acq", "rel", "acqrel", "sc"} {
		wantThread(t, 3, "r = add "+mode+" y 2;", "0: begin",
			"0: 2 read "+mode+" 1 0", "0: 3 write "+mode+" 1 2 rmw end 0",
			"0: 2 read "+mode+" 1 1", "0: 5 write "+mode+" 1 0 rmw end 1",
			"0: 2 read "+mode+" 1 2", "0: 7 write "+mode+" 1 1 rmw end 2")
	}
	wantThread(t, 2, "r = 1; r = add rlx x r + r; fence sc;", "0: begin", // the register has 1 where the sum is made
		"0: 2 read rlx 0 0", "0: 3 write rlx 0 0 rmw", "0: 4 bar sc end 0",
		"0: 2 read rlx 0 1", "0: 6 write rlx 0 1 rmw", "0: 7 bar sc end 1")
	wantThread(t, 4, "r = 3; r = add sc x r;", "0: begin",
		"0: 2 read sc 0 0", "0: 3 write sc 0 3 rmw end 0", "0: 2 read sc 0 1", "0: 5 write sc 0 0 rmw end 1",
		"0: 2 read sc 0 2", "0: 7 write sc 0 1 rmw end 2", "0: 2 read sc 0 3", "0: 9 write sc 0 2 rmw end 3")
	wantThread(t, 2, "r = add rel x 0; s = add acq y r;", "0: begin",
		"0: 2 read rel 0 0", "0: 3 write rel 0 0 rmw", "0: 4 read acq 1 0", "0: 5 write acq 1 0 rmw end 0 0", "0: 4 read acq 1 1", "0: 7 write acq 1 1 rmw end 0 1",
		"0: 2 read rel 0 1", "0: 9 write rel 0 1 rmw", "0: 10 read acq 1 0", "0: 11 write acq 1 1 rmw end 1 0", "0: 10 read acq 1 1", "0: 13 write acq 1 0 rmw end 1 1")
}

func TestCas(t *testing.T) {
	for _, mode := range []string{"rlx", "acq", "rel", "acqrel", "sc"} {
		wantThread(t, 3, "r = cas "+mode+" y 1, 2;", "0: begin",
			"0: 2 read "+mode+" 1 0 end 0", "0: 2 read "+mode+" 1 1", "0: 4 write "+mode+" 1 2 rmw end 1", "0: 2 read "+mode+" 1 2 end 2")
	}
	wantThread(t, 2, "r = cas sc x 0, 0;", "0: begin", "0: 2 read sc 0 0", "0: 3 write sc 0 0 rmw end 0", "0: 2 read sc 0 1 end 1")
	wantThread(t, 3, "r = 2; r = cas rel x r, r + 2; store rlx y r;", "0: begin", // the register has 2 where both are reckoned
		"0: 2 read rel 0 0", "0: 3 write rlx 1 0 end 0",
		"0: 2 read rel 0 1", "0: 5 write rlx 1 1 end 1",
		"0: 2 read rel 0 2", "0: 7 write rel 0 1 rmw", "0: 8 write rlx 1 2 end 2")
	wantThread(t, 2, "s = load rlx y; r = cas rlx x s, 1 - s;", "0: begin",
		"0: 2 read rlx 1 0", "0: 3 read rlx 0 0", "0: 4 write rlx 0 1 rmw end 0 0", "0: 3 read rlx 0 1 end 0 1",
		"0: 2 read rlx 1 1", "0: 7 read rlx 0 0 end 1 0", "0: 7 read rlx 0 1", "0: 9 write rlx 0 0 rmw end 1 1")
}

// A Cas whose first Arg is none of the values may not be; a sum that is none goes round, and so is one.
func TestCasOfNoValue(t *testing.T) {
	wantErr(t, prog(t, "values 3 init x 0", "r = cas rlx x 3, 0;"), api.ErrArg)
	wantErr(t, prog(t, "values 3 init x 0", "r = cas rlx x 0, 3;"), api.ErrArg)
	wantThread(t, 2, "r = cas rlx x 1 + 1, 0 - 1;", "0: begin", "0: 2 read rlx 0 0", "0: 3 write rlx 0 1 rmw end 0", "0: 2 read rlx 0 1 end 1")
}

func TestIfs(t *testing.T) {
	const in, out, behind = "write rlx 0 1", "write rlx 0 0", "write sc 1 1"
	wantThread(t, 2, "if 1 { store rlx x 1; }", "0: begin", "0: 2 "+in+" end")
	wantThread(t, 2, "if 0 { store rlx x 1; }", "0: begin end")
	wantThread(t, 2, "if 1 { store rlx x 1; } else { store rlx x 0; }", "0: begin", "0: 2 "+in+" end")
	wantThread(t, 2, "if 0 { store rlx x 1; } else { store rlx x 0; }", "0: begin", "0: 2 "+out+" end")
	wantThread(t, 2, "if 1 { store rlx x 1; } store sc y 1;", "0: begin", "0: 2 "+in, "0: 3 "+behind+" end")
	wantThread(t, 2, "if 0 { store rlx x 1; } store sc y 1;", "0: begin", "0: 2 "+behind+" end")
	wantThread(t, 2, "if 0 { store rlx x 1; } else { store rlx x 0; } store sc y 1;", "0: begin", "0: 2 "+out, "0: 3 "+behind+" end")
	wantThread(t, 2, "fence sc; if 1 { } else { store rlx x 0; } store sc y 1;", "0: begin", "0: 2 bar sc", "0: 3 "+behind+" end")
	wantThread(t, 4, "if 2 { store rlx x 1; } if 1 - 2 { store rlx x 0; } if 3 + 1 { fence sc; }", "0: begin", "0: 2 "+in, "0: 3 "+out+" end")
	wantThread(t, 2, "r = load rlx y; if r == 0 { r = 1; store rlx x r; } else { r = 0; } store sc y r;", "0: begin", // the test is not asked again
		"0: 2 read rlx 1 0", "0: 3 "+in, "0: 4 "+behind+" end 1", "0: 2 read rlx 1 1", "0: 6 write sc 1 0 end 0")
}

func TestIfsWithinIfs(t *testing.T) {
	wantThread(t, 2, "if 1 { if 0 { store rlx x 1; } else { fence acq; if 1 { fence rel; } fence acqrel; } fence sc; } store rlx x 1;",
		"0: begin", "0: 2 bar acq", "0: 3 bar rel", "0: 4 bar acqrel", "0: 5 bar sc", "0: 6 write rlx 0 1 end")
	wantThread(t, 2, "if 0 { } else { if 1 { if 1 { if 1 { if 1 { if 1 { store rlx x 1; } } } } } }", "0: begin", "0: 2 write rlx 0 1 end")
	wantThread(t, 2, "r = load rlx x; if r { s = load sc y; if s { store rlx x s; } store rel y r; } fence sc;", "0: begin",
		"0: 2 read rlx 0 0", "0: 3 bar sc end 0 0",
		"0: 2 read rlx 0 1",
		"0: 5 read sc 1 0", "0: 6 write rel 1 1", "0: 7 bar sc end 1 0",
		"0: 5 read sc 1 1", "0: 9 write rlx 0 1", "0: 10 write rel 1 1", "0: 11 bar sc end 1 1")
}

// lines is that many statements.
func lines(n int, s string) string { return strings.Repeat(s+" ", n) }

func TestMaxNodes(t *testing.T) {
	for _, c := range []struct {
		head    string
		threads []string
		nodes   int
	}{
		{"values 2 init x 0", []string{lines(16, "fence sc;"), lines(16, "store rlx x 1;"), lines(16, "fence acq;"), lines(11, "fence sc;")}, 64},
		{"values 2 init x 0", []string{lines(16, "fence sc;"), lines(16, "store rlx x 1;"), lines(16, "fence acq;"), lines(12, "fence sc;")}, 65},
		{"values 2 init x 0 init y 0", []string{lines(16, "fence sc;"), lines(16, "store rlx x 1;"), lines(16, "fence acq;"), lines(11, "fence sc;")}, 65},
		{"values 2 init x 0", []string{lines(5, "r = load rlx x;")}, 64},
		{"values 2 init x 0", []string{lines(5, "r = load rlx x;"), ""}, 65},
		{"values 2 init x 0", []string{"", lines(5, "r = load rlx x;")}, 65},
		{"values 2 init x 0 init y 0", []string{lines(5, "r = load rlx x;")}, 65},
		{"values 2 init x 0", []string{lines(4, "r = load rlx x;") + "if r { store rlx x 1; fence sc; } else { store rlx x 0; fence sc; }"}, 64},
		{"values 2 init x 0", []string{lines(4, "r = load rlx x;") + "if r { store rlx x 1; fence sc; } else { store rlx x 0; fence sc; fence sc; }"}, 72},
		{"values 2 init x 0", []string{lines(3, "r = add rlx x 1;")}, 30},
		{"values 2 init x 0", []string{lines(4, "r = add rlx x 1;")}, 62},
		{"values 2 init x 0 init y 0 init z 1", []string{lines(4, "r = add rlx x 1;")}, 64},
		{"values 2 init x 0 init y 0 init z 1 init w 0", []string{lines(4, "r = add rlx x 1;")}, 65},
		{"values 4 init x 0", []string{lines(16, "r = load rlx x;")}, 65},
		{"values 4 init x 0", []string{"r = 0;" + lines(15, "r = add rlx x r;"), lines(16, "r = add rlx x 1;"), lines(16, "r = load rlx x;"), lines(16, "r = load rlx x;")}, 65},
	} {
		p := prog(t, c.head, c.threads...)
		x, err := lts.Build(p)
		switch {
		case c.nodes > api.MaxNodes:
			wantErr(t, p, api.ErrLong)
		case err != api.OK || len(x.Nodes) != c.nodes:
			t.Errorf("%s %q: %d, %d nodes, not %d", c.head, c.threads, err, len(x.Nodes), c.nodes)
		default:
			wantMay(t, x)
		}
	}
}

// Where there are more nodes than may be, check's error is told ahead of that.
func TestErrors(t *testing.T) {
	many := lines(6, "r = load rlx x;")
	wantErr(t, prog(t, "values 2 init x 0", many), api.ErrLong)
	for _, c := range []struct {
		head    string
		threads []string
		err     api.Errno
	}{
		{"values 5 init x 0", []string{""}, api.ErrArg},
		{"values 1 init x 0", []string{""}, api.ErrArg},
		{"values 2 init x 2", []string{many}, api.ErrArg},
		{"values 2 init x 0 init x 1", []string{many}, api.ErrName},
		{"values 2 init x 0 init a 0 init b 0 init c 0 init d 0", []string{""}, api.ErrLong},
		{"values 2 init y 0", []string{""}, api.ErrName}, // x is asked for
		{"values 2", []string{""}, api.ErrName},
		{"values 2 init x 0", []string{"", "", "", "", ""}, api.ErrLong},
		{"values 2 init x 0", []string{many, "r = load rlx z;"}, api.ErrName},
		{"values 2 init x 0", []string{"store acq x 1;"}, api.ErrArg},
		{"values 2 init x 0", []string{"store rlx x 2;"}, api.ErrArg},
		{"values 2 init x 0", []string{"store rlx x r;"}, api.ErrName},
		{"values 2 init x 0", []string{"store rlx x r; r = 1;"}, api.ErrName},
		{"values 2 init x 0", []string{"r = 1;", "store rlx x r;"}, api.ErrName},
		{"values 2 init x 0", []string{"x = 1;"}, api.ErrName},
		{"values 2 init x 0", []string{"a = 0; b = 0; c = 0; d = 0; e = 0;"}, api.ErrLong},
		{"values 2 init x 0", []string{lines(17, "r = 0;")}, api.ErrLong},
		{"values 2 init x 0", []string{lines(8, "if 1 {") + lines(8, "}")}, api.ErrLong},
		{"values 2 init x 0", []string{"r = 1 + (1 + (1 + (1 + (1 + (1 + 1)))));"}, api.ErrLong},
		{"values 2 init x 0", []string{"fence rlx;"}, api.ErrArg},
	} {
		wantErr(t, prog(t, c.head, c.threads...), c.err)
	}
	wantErr(t, api.Prog{}, api.ErrName)
	wantErr(t, api.Prog{Name: "a", Vals: 2}, api.ErrArg)
}

// Each thing of a program that may not be, by hand.
func TestErrorsOfParts(t *testing.T) {
	for i, set := range []struct {
		err api.Errno
		set func(p *api.Prog)
	}{
		{api.ErrName, func(p *api.Prog) { p.Name = "" }}, {api.ErrArg, func(p *api.Prog) { p.Vals = 0 }}, {api.ErrArg, func(p *api.Prog) { p.Threads = nil }},
		{api.ErrName, func(p *api.Prog) { p.Init[0].Loc = "" }}, {api.ErrArg, func(p *api.Prog) { p.Init[0].N = -1 }},
		{api.ErrArg, func(p *api.Prog) { p.Ask = 0 }}, {api.ErrArg, func(p *api.Prog) { p.Ask = 3 }}, {api.ErrArg, func(p *api.Prog) { p.Cond = api.Cond{} }}, {api.ErrArg, func(p *api.Prog) { p.Cond.N = 2 }}, {api.ErrName, func(p *api.Prog) { p.Cond.Name = "y" }},
		{api.ErrArg, func(p *api.Prog) { p.Threads[0][0].Kind = 0 }}, {api.ErrArg, func(p *api.Prog) { p.Threads[0][0].Kind = 8 }}, {api.ErrArg, func(p *api.Prog) { p.Threads[0][0].Mode = -1 }}, {api.ErrName, func(p *api.Prog) { p.Threads[0][0].Reg = "" }}, {api.ErrArg, func(p *api.Prog) { p.Threads[0][0].Args = nil }},
		{api.ErrArg, func(p *api.Prog) { p.Threads[0][0].Args[0].Op = 0 }}, {api.ErrArg, func(p *api.Prog) { p.Threads[0][0].Then = p.Threads[0] }}, {api.ErrName, func(p *api.Prog) { p.Threads[0][0].Loc = "y" }},
		{api.ErrLong, func(p *api.Prog) { p.Threads[0][0].Args[0] = api.Expr{Op: api.Plus, Kids: p.Threads[0][0].Args} }}, // within itself
	} {
		p := prog(t, "values 2 init x 0", "r = add rlx x 1;")
		wantNodes(t, p, "write rlx 0 0", "0: begin", "0: 1 read rlx 0 0", "0: 2 write rlx 0 1 rmw end 0", "0: 1 read rlx 0 1", "0: 4 write rlx 0 0 rmw end 1")
		set.set(&p)
		if err, _ := check.May(p); err != set.err {
			t.Error(i, err)
		}
		wantErr(t, p, set.err)
	}
}
