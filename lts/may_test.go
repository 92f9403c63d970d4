package lts_test

import (
	"slices"
	"strconv"
	"strings"
	"testing"

	"withe/api"
	"withe/lts"
)

// node is a node of a text as text (make_test.go) tells it.
func node(s string) api.Node {
	n := api.Node{Thread: -1, Up: -1}
	l := strings.Fields(s)
	number := func(or int) int {
		if len(l) > 0 {
			if v, err := strconv.Atoi(l[0]); err == nil {
				l = l[1:]
				return v
			}
		}
		return or
	}
	word := func(of func(int) string) int {
		for i := range 5 {
			if len(l) > 0 && of(i) == l[0] {
				l = l[1:]
				return i
			}
		}
		return 0
	}
	flag := func(w string) bool {
		is := len(l) > 0 && l[0] == w
		if is {
			l = l[1:]
		}
		return is
	}
	if thread, ok := strings.CutSuffix(l[0], ":"); ok {
		n.Thread, _ = strconv.Atoi(thread)
		l = l[1:]
	}
	n.Up = number(-1)
	n.Kind, n.Mode = word(kindName), word(modeName)
	n.Loc, n.Val = number(0), number(0)
	n.Rmw, n.End = flag("rmw"), flag("end")
	for len(l) > 0 {
		n.Regs = append(n.Regs, number(0))
	}
	return n
}

// lists are names in brackets, split by blanks: [r s] [] [q].
func lists(s string) [][]string {
	var out [][]string
	for _, l := range strings.Split(s, "[")[1:] {
		out = append(out, strings.Fields(strings.TrimRight(l, "] ")))
	}
	return out
}

// tree is a tree by hand.
func tree(vals int, locs, regs string, nodes ...string) api.Tree {
	x := api.Tree{Vals: vals, Locs: strings.Fields(locs), Regs: lists(regs)}
	for _, s := range nodes {
		x.Nodes = append(x.Nodes, node(s))
	}
	return x
}

func TestNodeTexts(t *testing.T) {
	for _, s := range []string{"write rlx 0 0", "0: begin", "0: begin end", "3: begin end 1 0", "1: 2 read acqrel 3 2 end 1", "0: 2 write sc 1 0 rmw", "0: 2 write rel 0 0 rmw end 3 2 1 0", "1: 12 bar acq end", "none rlx 0 0"} {
		if got := text(node(s)); got != s {
			t.Errorf("%q, not %q", got, s)
		}
	}
}

// base has a first write of x, y, then thread 0 (Begin 2; Read 3, Rmw 4, Bar 5; Read 6, Rmw 7, Bar 8), thread 1 (Begin 9; Read 10, Write 11; Read 12, Write 13), thread 2 (Begin 14).
func base() api.Tree {
	return tree(2, "x y", "[r] [s q] []",
		"write rlx 0 0", "write rlx 1 1",
		"0: begin", "0: 2 read rel 0 0", "0: 3 write rel 0 1 rmw", "0: 4 bar sc end 0", "0: 2 read rel 0 1", "0: 6 write rel 0 0 rmw", "0: 7 bar sc end 1",
		"1: begin", "1: 9 read acq 1 0", "1: 10 write rlx 0 0 end 0 1", "1: 9 read acq 1 1", "1: 12 write rlx 0 1 end 1 1",
		"2: begin end")
}

// changed asks of the base with one change after the other whether it may be.
func changed(t *testing.T, may bool, sets ...func(x *api.Tree)) {
	t.Helper()
	for i, set := range sets {
		x := base()
		wantMay(t, x)
		set(&x)
		if lts.May(x) != may {
			t.Errorf("%d: May is %t of\n%s", i, !may, texts(x))
		}
	}
}

func TestBase(t *testing.T) {
	const head = "values 2 init x 0 init y 1"
	if x := treeOf(t, head, "r = add rel x 1; fence sc;", "s = load acq y; q = 1; store rlx x s;", ""); texts(x) != texts(base()) {
		t.Errorf("%s, not\n%s", texts(x), texts(base()))
	}
}

func TestMayHeads(t *testing.T) {
	for vals := -2; vals <= 7; vals++ {
		x := tree(vals, "x", "[]", "write rlx 0 0", "0: begin end")
		if lts.May(x) != (2 <= vals && vals <= api.MaxVals) {
			t.Error(vals)
		}
	}
	for _, vals := range odds() {
		wantMayNot(t, tree(vals, "x", "[]", "write rlx 0 0", "0: begin end"))
	}
	changed(t, false,
		func(x *api.Tree) { x.Vals = 1 }, func(x *api.Tree) { x.Vals = 0 }, func(x *api.Tree) { x.Vals = 3 }, func(x *api.Tree) { x.Vals = 4 }, func(x *api.Tree) { x.Vals = 5 },
		func(x *api.Tree) { x.Locs[1] = "x" }, func(x *api.Tree) { x.Locs[0] = "y" }, func(x *api.Tree) { x.Locs = x.Locs[:1] }, func(x *api.Tree) { x.Locs = nil }, func(x *api.Tree) { x.Locs = append(x.Locs, "z") }, func(x *api.Tree) { x.Locs = []string{"", ""} },
	)
	changed(t, true, // names are names: what of it is no Name is asked of programs
		func(x *api.Tree) { x.Locs[0], x.Locs[1] = "y", "x" }, func(x *api.Tree) { x.Locs[0] = "" }, func(x *api.Tree) { x.Locs[0] = "sixteen bytes ..." }, func(x *api.Tree) { x.Locs[0] = "r" }, func(x *api.Tree) { x.Regs[0][0] = "" }, func(x *api.Tree) { x.Regs[1][0], x.Regs[1][1] = "q", "s" }, func(x *api.Tree) { x.Regs[0][0] = "s" }, func(x *api.Tree) { x.Regs[0][0] = "load" },
	)
}

func TestMayLocs(t *testing.T) {
	names := []string{"x", "y", "z", "a", "b", "c"}
	for n := range names {
		x := tree(2, strings.Join(names[:n], " "), "[]")
		for i := range n {
			x.Nodes = append(x.Nodes, api.Node{Thread: -1, Up: -1, Kind: api.Write, Loc: i, Val: i % 2})
		}
		x.Nodes = append(x.Nodes, node("0: begin end"))
		if lts.May(x) != (n <= api.MaxLocs) {
			t.Error(texts(x))
		}
		for i := range n {
			for k := range i {
				y := copied(x)
				y.Locs[i] = y.Locs[k]
				wantMayNot(t, y)
			}
		}
	}
}

func TestMayFirstWrites(t *testing.T) {
	for i := range 2 {
		of := func(set func(n *api.Node)) func(x *api.Tree) { return func(x *api.Tree) { set(&x.Nodes[i]) } }
		changed(t, false,
			of(func(n *api.Node) { n.Thread = 0 }), of(func(n *api.Node) { n.Thread = -2 }), of(func(n *api.Node) { n.Up = 0 }), of(func(n *api.Node) { n.Up = -2 }), of(func(n *api.Node) { n.Up = 2 }),
			of(func(n *api.Node) { n.Kind = api.Read }), of(func(n *api.Node) { n.Kind = api.Begin }), of(func(n *api.Node) { n.Kind = 0 }), of(func(n *api.Node) { n.Loc = 1 - n.Loc }), of(func(n *api.Node) { n.Loc = 2 }), of(func(n *api.Node) { n.Loc = -1 }),
			of(func(n *api.Node) { n.Mode = api.Acq }), of(func(n *api.Node) { n.Mode = api.Rel }), of(func(n *api.Node) { n.Mode = api.Sc }), of(func(n *api.Node) { n.Val = 2 }), of(func(n *api.Node) { n.Val = -1 }),
			of(func(n *api.Node) { n.Rmw = true }), of(func(n *api.Node) { n.End = true }), of(func(n *api.Node) { n.Regs = []int{0} }), of(func(n *api.Node) { n.End, n.Regs = true, []int{0} }),
			func(x *api.Tree) { x.Nodes = x.Nodes[:i] },
		)
		changed(t, true, of(func(n *api.Node) { n.Val = 0 }), of(func(n *api.Node) { n.Val = 1 }), of(func(n *api.Node) { n.Regs = []int{} }))
	}
	wantMay(t, tree(2, "x", "[]", "write rlx 0 0", "0: begin end"))
	wantMayNot(t, tree(2, "x", "[]", "0: begin end"))
	wantMayNot(t, tree(2, "x y", "[]", "write rlx 0 0", "0: begin end"))
	wantMayNot(t, tree(2, "x y", "[]", "write rlx 1 0", "write rlx 0 0", "0: begin end"))
	wantMayNot(t, tree(2, "x y", "[]", "write rlx 0 0", "write rlx 0 0", "0: begin end"))
	wantMayNot(t, tree(2, "x", "[]", "write rlx 0 0", "write rlx 1 0", "0: begin end"))
	wantMayNot(t, tree(2, "x", "[]", "write rlx 0 0", "write rlx 0 0", "0: begin end"))
	wantMayNot(t, tree(2, "x", "[]", "0: begin end", "write rlx 0 0"))
	wantMayNot(t, tree(2, "x", "[]", "write rlx 0 0", "0: begin end", "write rlx 0 0"))
	wantMayNot(t, tree(2, "", "[]", "write rlx 0 0", "0: begin end"))
}

func TestMayRegs(t *testing.T) {
	changed(t, false,
		func(x *api.Tree) { x.Regs = x.Regs[:2] }, func(x *api.Tree) { x.Regs = x.Regs[1:] }, func(x *api.Tree) { x.Regs = append(x.Regs, nil) }, func(x *api.Tree) { x.Regs = nil },
		func(x *api.Tree) { x.Regs[1] = []string{"s", "s"} }, func(x *api.Tree) { x.Regs[1] = []string{"", ""} }, func(x *api.Tree) { x.Regs[0] = nil }, func(x *api.Tree) { x.Regs[0] = append(x.Regs[0], "t") }, func(x *api.Tree) { x.Regs[2] = []string{"t"} },
	)
	names := strings.Fields("a b c d e f")
	for n := range names {
		regs := strings.Join(names[:n], " ")
		x := tree(2, "", "["+regs+"] ["+regs+"]", "0: begin end"+strings.Repeat(" 1", n), "1: begin end"+strings.Repeat(" 0", n))
		if lts.May(x) != (n <= api.MaxRegs) {
			t.Error(texts(x))
		}
		for thread := range 2 {
			for i := range n {
				for k := range i {
					y := copied(x)
					y.Regs[thread][i] = y.Regs[thread][k]
					wantMayNot(t, y)
				}
			}
		}
	}
}

func TestMayThreads(t *testing.T) {
	var x api.Tree
	x.Vals = 2
	wantMayNot(t, x) // no thread
	for n := range 7 {
		if lts.May(x) != (1 <= n && n <= api.MaxThreads) {
			t.Error(texts(x))
		}
		x.Regs = append(x.Regs, nil)
		wantMayNot(t, x) // fewer Begins than Regs
		x.Nodes = append(x.Nodes, api.Node{Thread: n, Up: -1, Kind: api.Begin, End: true})
	}
	wantMayNot(t, tree(2, "x", "", "write rlx 0 0"))
	wantMayNot(t, tree(2, "x", "[]", "write rlx 0 0"))
	wantMayNot(t, tree(2, "", "[]", "1: begin end"))
	wantMayNot(t, tree(2, "", "[]", "begin end"))
	wantMayNot(t, tree(2, "", "[] []", "0: begin end", "0: begin end"))
	wantMayNot(t, tree(2, "", "[] []", "1: begin end", "0: begin end"))
	wantMayNot(t, tree(2, "", "[] []", "0: begin end", "2: begin end"))
	wantMayNot(t, tree(2, "", "[]", "0: begin end", "0: begin end"))
	wantMayNot(t, tree(2, "", "[]", "0: begin end", "1: begin end"))
	wantMayNot(t, tree(2, "", "[]", "0: begin", "0: 0 begin end"))
	wantMayNot(t, tree(2, "", "[] []", "0: begin", "1: 0 begin end"))
	changed(t, false,
		func(x *api.Tree) { x.Nodes[9].Thread = 0 }, func(x *api.Tree) { x.Nodes[9].Thread = 2 }, func(x *api.Tree) { x.Nodes[13].Thread = 0 }, func(x *api.Tree) { x.Nodes[5].Thread = 1 }, func(x *api.Tree) { x.Nodes[3].Thread = -1 }, func(x *api.Tree) { x.Nodes[14].Thread = 1 }, func(x *api.Tree) { x.Nodes[14].Thread = 3 },
		func(x *api.Tree) { x.Nodes[2].Thread, x.Nodes[9].Thread = 1, 0 },
		func(x *api.Tree) { x.Nodes = x.Nodes[:14] }, func(x *api.Tree) { x.Nodes = append(x.Nodes, x.Nodes[14]) }, func(x *api.Tree) { x.Nodes[13], x.Nodes[14] = x.Nodes[14], x.Nodes[13] },
	)
}

func TestMayBegins(t *testing.T) {
	for _, i := range []int{2, 9, 14} {
		of := func(set func(n *api.Node)) func(x *api.Tree) { return func(x *api.Tree) { set(&x.Nodes[i]) } }
		changed(t, false,
			of(func(n *api.Node) { n.Up = 0 }), of(func(n *api.Node) { n.Up = i - 1 }), of(func(n *api.Node) { n.Up = i }), of(func(n *api.Node) { n.Up = -2 }), of(func(n *api.Node) { n.Kind = api.Bar }), of(func(n *api.Node) { n.Kind = 0 }), of(func(n *api.Node) { n.Kind, n.Mode = api.Bar, api.Sc }),
			of(func(n *api.Node) { n.Loc = 1 }), of(func(n *api.Node) { n.Loc = -1 }), of(func(n *api.Node) { n.Mode = api.Acq }), of(func(n *api.Node) { n.Mode = api.Sc }), of(func(n *api.Node) { n.Val = 1 }), of(func(n *api.Node) { n.Rmw = true }),
			of(func(n *api.Node) { n.End = !n.End }), of(func(n *api.Node) { n.Regs = []int{0} }),
		)
	}
}

// An Up that is not the one ahead.
func TestMayUps(t *testing.T) {
	for i := 2; i <= 14; i++ {
		for up := -3; up <= 17; up++ {
			if x := base(); x.Nodes[i].Up != up {
				x.Nodes[i].Up = up
				wantMayNot(t, x)
			}
		}
		for _, up := range odds() {
			x := base()
			x.Nodes[i].Up = up
			wantMayNot(t, x)
		}
	}
	wantMayNot(t, tree(2, "x", "[]", "write rlx 0 0", "0: begin", "0: 1 bar sc", "0: 1 bar sc end"))
	wantMayNot(t, tree(2, "x", "[]", "write rlx 0 0", "0: begin", "0: 1 bar sc end", "0: 1 bar sc end"))
	wantMayNot(t, tree(2, "x", "[]", "write rlx 0 0", "0: begin", "0: 3 bar sc", "0: 1 bar sc end"))
	wantMayNot(t, tree(2, "x", "[]", "write rlx 0 0", "0: begin", "0: 3 bar sc", "0: 1 bar sc")) // none is an End: each has a Kid, but no way leads behind the Begin
	wantMayNot(t, tree(2, "x", "[]", "write rlx 0 0", "0: begin end", "0: 3 bar sc", "0: 2 bar sc"))
	wantMayNot(t, tree(2, "x", "[]", "write rlx 0 0", "0: begin end", "0: 2 bar sc"))
}

// Each node behind what it is beneath, but not in the order of a walk.
func TestMayOrder(t *testing.T) {
	const first, begin = "write rlx 0 0", "0: begin"
	wantMay(t, tree(2, "x", "[r]", first, begin, "0: 1 read sc 0 0", "0: 2 bar sc end 0", "0: 1 read sc 0 1", "0: 4 bar sc end 1"))
	wantMayNot(t, tree(2, "x", "[r]", first, begin, "0: 1 read sc 0 0", "0: 1 read sc 0 1", "0: 2 bar sc end 0", "0: 3 bar sc end 1"))
	wantMayNot(t, tree(2, "x", "[r]", first, begin, "0: 1 read sc 0 0", "0: 1 read sc 0 1", "0: 3 bar sc end 1", "0: 2 bar sc end 0"))
	wantMayNot(t, tree(2, "x", "[r]", first, begin, "0: 1 read sc 0 0", "0: 1 read sc 0 1", "0: 3 read rlx 0 0 end 0", "0: 3 read rlx 0 1 end 0", "0: 2 read rlx 0 0 end 0", "0: 2 read rlx 0 1 end 0"))
	wantMayNot(t, tree(2, "x", "[r]", first, "0: 2 bar sc", begin, "0: 1 bar sc end 0"))
	wantMayNot(t, tree(2, "x", "[r] []", first, begin, "1: begin end", "0: 1 bar sc end 0"))
	wantMayNot(t, tree(2, "x", "[] []", first, begin, "1: begin", "0: 1 bar sc end", "1: 2 bar sc end"))
}

func TestMayReads(t *testing.T) {
	const first, begin = "write rlx 0 0", "0: begin"
	ends := func(mode string, locVals ...string) api.Tree {
		l := []string{first, "write rlx 1 0", begin}
		for _, s := range locVals {
			l = append(l, "0: 2 read "+mode+" "+s+" end")
		}
		return tree(3, "x y", "[]", l...)
	}
	wantMay(t, ends("rlx", "0 0", "0 1", "0 2"))
	wantMay(t, ends("sc", "1 0", "1 1", "1 2"))
	for _, l := range []string{
		"", "0 0", "0 1", "0 2", "0 0/0 1", "0 0/0 2", "0 1/0 2", "0 0/0 1/0 1/0 2", "0 0/0 1/0 2/0 2", "0 0/0 0/0 1/0 2", "0 0/0 1/0 2/0 0/0 1/0 2", "0 0/0 1/0 2/0 3", "0 1/0 2/0 3",
		"0 0/0 0/0 0", "0 0/0 0/0 2", "0 0/0 1/0 1", "0 1/0 0/0 2", "0 0/0 2/0 1", "0 2/0 1/0 0", "0 1/0 2/0 0", "1 0/0 1/0 2", "0 0/1 1/0 2", "0 0/0 1/1 2", "2 0/2 1/2 2", "-1 0/-1 1/-1 2", "0 -1/0 0/0 1", "0 -1/0 0/0 1/0 2", "0 0/0 1/0 2/1 0", "0 0/0 1/0 2/1 0/1 1/1 2",
	} {
		var of []string
		if l != "" {
			of = strings.Split(l, "/")
		}
		wantMayNot(t, ends("rlx", of...))
	}
	changed(t, false, // of another Mode
		func(x *api.Tree) { x.Nodes[10].Mode = api.Sc }, func(x *api.Tree) { x.Nodes[12].Mode = api.Rlx }, func(x *api.Tree) { x.Nodes[3].Mode = api.AcqRel }, func(x *api.Tree) { x.Nodes[6].Mode = api.Rlx }, func(x *api.Tree) { x.Nodes[3].Mode, x.Nodes[4].Mode = api.Sc, api.Sc },
	)
}

// Kids beside Reads, and beside others.
func TestMayKidsBesides(t *testing.T) {
	const first, begin = "write rlx 0 0", "0: begin"
	const zero, one, bar, write = "0: 1 read sc 0 0 end", "0: 1 read sc 0 1 end", "0: 1 bar sc end", "0: 1 write sc 0 0 end"
	wantMay(t, tree(2, "x", "[]", first, begin, zero, one))
	for _, other := range []string{bar, write, "0: 1 write sc 0 0 rmw end", "0: 1 begin end", "0: 1 read rlx 0 0 end", "0: 1 read rlx 0 1 end", "0: 1 none rlx 0 0 end", zero, one} {
		for at := range 3 {
			l := slices.Insert([]string{zero, one}, at, other)
			wantMayNot(t, tree(2, "x", "[]", append([]string{first, begin}, l...)...))
		}
		for _, alone := range []string{bar, write} {
			wantMay(t, tree(2, "x", "[]", first, begin, alone))
			wantMayNot(t, tree(2, "x", "[]", first, begin, alone, other))
			wantMayNot(t, tree(2, "x", "[]", first, begin, other, alone))
		}
	}
	wantMayNot(t, tree(2, "x", "[]", first, begin, "0: 1 read sc 0 0", "0: 2 read sc 0 0 end", "0: 2 read sc 0 1 end", "0: 2 bar sc end", "0: 1 read sc 0 1 end"))
}

type want bool

// node asks of x with its node i made otherwise whether it may be.
func (w want) node(t *testing.T, x api.Tree, i int, set func(n *api.Node)) {
	t.Helper()
	x = copied(x)
	set(&x.Nodes[i])
	if lts.May(x) != bool(w) {
		t.Errorf("May is %t of\n%s", !bool(w), texts(x))
	}
}

// A Bar of Mode Sc may as well be a Write of it.
func TestMayKinds(t *testing.T) {
	for i := range base().Nodes {
		for _, kind := range numbers() {
			is := base().Nodes[i].Kind
			want(kind == is || is == api.Bar && kind == api.Write).node(t, base(), i, func(n *api.Node) { n.Kind = kind })
		}
	}
}

func TestMayLocsOfNodes(t *testing.T) {
	x := tree(2, "x y", "[]", "write rlx 0 0", "write rlx 1 0", "0: begin", "0: 2 bar sc", "0: 3 write sc 1 0", "0: 4 read sc 0 0 end", "0: 4 read sc 0 1 end")
	wantMay(t, x)
	for _, loc := range numbers() {
		want(loc == 0).node(t, x, 3, func(n *api.Node) { n.Loc = loc })
		want(loc == 0 || loc == 1).node(t, x, 4, func(n *api.Node) { n.Loc = loc })
		y := copied(x)
		y.Nodes[5].Loc, y.Nodes[6].Loc = loc, loc
		if lts.May(y) != (loc == 0 || loc == 1) {
			t.Error(loc)
		}
	}
	wantMayNot(t, tree(2, "", "[]", "0: begin", "0: 0 write sc 0 0 end"))
	wantMayNot(t, tree(2, "", "[]", "0: begin", "0: 0 read sc 0 0 end", "0: 0 read sc 0 1 end"))
	wantMay(t, tree(2, "", "[]", "0: begin", "0: 0 bar sc end"))
}

func TestMayVals(t *testing.T) {
	for vals := 2; vals <= 4; vals++ {
		x := tree(vals, "x", "[]", "write rlx 0 0", "0: begin", "0: 1 bar sc", "0: 2 write sc 0 0 end")
		for _, v := range numbers() {
			is := 0 <= v && v < vals
			want(is).node(t, x, 0, func(n *api.Node) { n.Val = v })
			want(is).node(t, x, 3, func(n *api.Node) { n.Val = v })
			want(v == 0).node(t, x, 2, func(n *api.Node) { n.Val = v })
		}
	}
	for _, v := range numbers() { // of a Write with Rmw
		want(v == 0 || v == 1).node(t, base(), 4, func(n *api.Node) { n.Val = v })
	}
}

func TestMayModes(t *testing.T) {
	bar := tree(2, "x", "[]", "write rlx 0 0", "0: begin", "0: 1 bar sc end")
	write := tree(2, "x", "[]", "write rlx 0 0", "0: begin", "0: 1 write sc 0 0 end")
	read := tree(2, "x", "[]", "write rlx 0 0", "0: begin", "0: 1 read sc 0 0 end", "0: 1 read sc 0 1", "0: 3 write rlx 0 1 end")
	inOne := tree(2, "x", "[]", "write rlx 0 0", "0: begin", "0: 1 read sc 0 0", "0: 2 write sc 0 1 rmw end", "0: 1 read sc 0 1", "0: 4 write sc 0 1 end")
	beside := tree(2, "x", "[]", "write rlx 0 0", "0: begin", "0: 1 read sc 0 0 end", "0: 1 read sc 0 1", "0: 3 write sc 0 1 rmw end")
	for _, mode := range numbers() {
		want(1 <= mode && mode <= 4).node(t, bar, 2, func(n *api.Node) { n.Mode = mode })
		want(mode == api.Rlx || mode == api.Rel || mode == api.Sc).node(t, write, 2, func(n *api.Node) { n.Mode = mode })
		x, y, z := copied(read), copied(inOne), copied(beside)
		x.Nodes[2].Mode, x.Nodes[3].Mode = mode, mode
		y.Nodes[2].Mode, y.Nodes[3].Mode, y.Nodes[4].Mode = mode, mode, mode
		z.Nodes[2].Mode, z.Nodes[3].Mode, z.Nodes[4].Mode = mode, mode, mode
		if lts.May(x) != (mode == api.Rlx || mode == api.Acq || mode == api.Sc) {
			t.Error(texts(x))
		}
		if is := 0 <= mode && mode <= 4; lts.May(y) != is || lts.May(z) != is {
			t.Error(texts(y), texts(z))
		}
	}
}

// The Rmw that lets Reads have any Mode stands right beneath one of them.
func TestMayModesOfReadsAboveAnRmw(t *testing.T) {
	for _, mode := range []string{"rlx", "acq", "rel", "acqrel", "sc"} {
		is := mode != "rel" && mode != "acqrel"
		below := tree(2, "x", "[]", "write rlx 0 0", "0: begin", "0: 1 read "+mode+" 0 0", "0: 2 read rel 0 0", "0: 3 write rel 0 0 rmw end", "0: 2 read rel 0 1 end", "0: 1 read "+mode+" 0 1 end")
		above := tree(2, "x", "[]", "write rlx 0 0", "0: begin", "0: 1 read rel 0 0", "0: 2 write rel 0 0 rmw", "0: 3 read "+mode+" 0 0 end", "0: 3 read "+mode+" 0 1 end", "0: 1 read rel 0 1 end")
		next := tree(2, "x", "[]", "write rlx 0 0", "0: begin", "0: 1 read rel 0 0", "0: 2 write rel 0 0 rmw end", "0: 1 read rel 0 1", "0: 4 read "+mode+" 0 0 end", "0: 4 read "+mode+" 0 1 end")
		other := tree(2, "x", "[] []", "write rlx 0 0", "0: begin", "0: 1 read "+mode+" 0 0 end", "0: 1 read "+mode+" 0 1 end", "1: begin", "1: 4 read "+mode+" 0 0 end", "1: 4 read "+mode+" 0 1", "1: 6 write "+mode+" 0 1 rmw end")
		for _, x := range []api.Tree{below, above, next, other} {
			if lts.May(x) != is {
				t.Error(texts(x))
			}
		}
	}
}

func TestMayRmws(t *testing.T) {
	changed(t, false,
		func(x *api.Tree) { x.Nodes[4].Loc = 1 }, func(x *api.Tree) { x.Nodes[4].Loc = 2 }, func(x *api.Tree) { x.Nodes[4].Mode = api.Rlx }, func(x *api.Tree) { x.Nodes[7].Mode = api.Sc }, func(x *api.Tree) { x.Nodes[7].Mode = api.AcqRel },
		func(x *api.Tree) { x.Nodes[2].Rmw = true }, func(x *api.Tree) { x.Nodes[3].Rmw = true }, func(x *api.Tree) { x.Nodes[5].Rmw = true }, func(x *api.Tree) { x.Nodes[14].Rmw = true },
		func(x *api.Tree) { x.Nodes[11].Rmw = true }, func(x *api.Tree) { x.Nodes[4].Rmw, x.Nodes[7].Rmw = false, false },
	)
	changed(t, true,
		func(x *api.Tree) { x.Nodes[4].Rmw = false }, func(x *api.Tree) { x.Nodes[7].Rmw = false }, // one at its side is enough
		func(x *api.Tree) { x.Nodes[11].Rmw, x.Nodes[11].Loc, x.Nodes[11].Mode = true, 1, api.Acq },
	)
	const first, begin = "write rlx 0 0", "0: begin"
	wantMayNot(t, tree(2, "x", "[]", first, begin, "0: 1 write rlx 0 0 rmw end"))
	wantMayNot(t, tree(2, "x", "[]", first, begin, "0: 1 write sc 0 0", "0: 2 write sc 0 0 rmw end"))
	wantMayNot(t, tree(2, "x", "[]", first, begin, "0: 1 bar sc", "0: 2 write sc 0 0 rmw end"))
	wantMayNot(t, tree(2, "x", "[]", first, begin, "0: 1 read sc 0 0", "0: 2 write sc 0 0 rmw", "0: 3 write sc 0 0 rmw end", "0: 1 read sc 0 1 end"))
	wantMayNot(t, tree(2, "x", "[]", first, begin, "0: 1 read sc 0 0", "0: 2 bar sc", "0: 3 write sc 0 0 rmw end", "0: 1 read sc 0 1 end"))
	wantMay(t, tree(2, "x", "[]", first, begin, "0: 1 read sc 0 0", "0: 2 write sc 0 0 rmw", "0: 3 write sc 0 0 end", "0: 1 read sc 0 1 end"))
}

func TestMayEnds(t *testing.T) {
	for i := range base().Nodes {
		want(false).node(t, base(), i, func(n *api.Node) { n.End = !n.End }) // an End with Kids, or a node without Kids that is none
		want(false).node(t, base(), i, func(n *api.Node) { n.Regs = append(n.Regs, 0) })
		want(false).node(t, base(), i, func(n *api.Node) { n.End, n.Regs = !n.End, nil })
		if n := base().Nodes[i]; len(n.Regs) > 0 {
			want(false).node(t, base(), i, func(n *api.Node) { n.Regs = nil })
			want(false).node(t, base(), i, func(n *api.Node) { n.Regs = n.Regs[1:] })
			for k := range n.Regs {
				for _, v := range numbers() {
					want(v == 0 || v == 1).node(t, base(), i, func(n *api.Node) { n.Regs[k] = v })
				}
			}
		} else {
			want(true).node(t, base(), i, func(n *api.Node) { n.Regs = []int{} })
		}
	}
	wantMay(t, tree(4, "", "[a b c d]", "0: begin end 3 2 1 0"))
	wantMayNot(t, tree(4, "", "[a b c d]", "0: begin end 3 2 1 4"))
	wantMayNot(t, tree(4, "", "[a b c d]", "0: begin end 3 2 1"))
	wantMayNot(t, tree(4, "", "[a b c d]", "0: begin"))
	wantMayNot(t, tree(3, "", "[a b] [a]", "0: begin end 0", "1: begin end 0 0")) // as many as the other one's
}

func TestMayNodes(t *testing.T) {
	for _, n := range []int{1, 2, 63, 64, 65, 66, 200} {
		x := api.Tree{Vals: 2, Regs: [][]string{nil}}
		for i := range n {
			x.Nodes = append(x.Nodes, api.Node{Up: i - 1, Kind: api.Bar, Mode: api.Sc, End: i == n-1})
		}
		x.Nodes[0].Kind, x.Nodes[0].Mode = api.Begin, 0
		if lts.May(x) != (n <= api.MaxNodes) {
			t.Error(n)
		}
	}
	for i := range base().Nodes { // of which one is missing
		x := base()
		x.Nodes = slices.Delete(x.Nodes, i, i+1)
		wantMayNot(t, x)
		x.Nodes = base().Nodes[:i]
		wantMayNot(t, x)
	}
}

func TestMayOfNothing(t *testing.T) {
	wantMayNot(t, api.Tree{})
	wantMayNot(t, api.Tree{Vals: 2})
	wantMayNot(t, api.Tree{Vals: 2, Regs: [][]string{}})
	wantMayNot(t, api.Tree{Vals: 2, Regs: [][]string{{}}})
	wantMayNot(t, api.Tree{Nodes: base().Nodes})
	wantMay(t, api.Tree{Vals: 2, Regs: [][]string{nil}, Nodes: []api.Node{{Up: -1, Kind: api.Begin, End: true}}})
	wantMay(t, api.Tree{Vals: 2, Locs: []string{}, Regs: [][]string{{}}, Nodes: []api.Node{{Up: -1, Kind: api.Begin, End: true, Regs: []int{}}}})
}
