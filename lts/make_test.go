package lts_test

import (
	"fmt"
	"math"
	"slices"
	"strings"
	"testing"

	"withe/api"
	"withe/lts"
	"withe/parse"
	"withe/show"
)

// prog is a program that asks for x being 0. Its head is values and inits, its threads are statements, all as text.
func prog(t *testing.T, head string, threads ...string) api.Prog {
	t.Helper()
	text := "litmus a " + head + " thread {" + strings.Join(threads, "} thread {") + "} exists x == 0"
	p, fault := parse.Parse(text)
	if fault != (api.Fault{}) {
		t.Fatal(text, fault)
	}
	return p
}

func built(t *testing.T, p api.Prog) api.Tree {
	t.Helper()
	x, err := lts.Build(p)
	if err != api.OK {
		t.Fatalf("Build(%s): %d", show.Prog(p), err)
	}
	return x
}

func treeOf(t *testing.T, head string, threads ...string) api.Tree {
	t.Helper()
	return built(t, prog(t, head, threads...))
}

func name(of []string, n int) string {
	if n >= 0 && n < len(of) {
		return of[n]
	}
	return "?" + fmt.Sprint(n)
}

func kindName(n int) string { return name([]string{"none", "begin", "read", "write", "bar"}, n) }
func modeName(n int) string { return name([]string{"rlx", "acq", "rel", "acqrel", "sc"}, n) }

// text is a node in one line: what it is beneath, its Kind, Mode, Loc, Val (but of a Begin and a Bar that have none, and an Up and a Thread that are -1), and what goes with an End.
func text(n api.Node) string {
	s := kindName(n.Kind)
	if n.Kind != api.Begin || n.Mode != 0 {
		s += " " + modeName(n.Mode)
	}
	if n.Kind != api.Begin && n.Kind != api.Bar || n.Loc != 0 || n.Val != 0 {
		s += fmt.Sprint(" ", n.Loc, " ", n.Val)
	}
	if n.Up != -1 {
		s = fmt.Sprint(n.Up, " ", s)
	}
	if n.Thread != -1 {
		s = fmt.Sprint(n.Thread, ": ", s)
	}
	if n.Rmw {
		s += " rmw"
	}
	if n.End {
		s += " end"
	}
	for _, v := range n.Regs {
		s += fmt.Sprint(" ", v)
	}
	return s
}

// texts is a tree, a line a node.
func texts(x api.Tree) string {
	s := fmt.Sprintf("values %d, locations %q, registers %q\n", x.Vals, x.Locs, x.Regs)
	for i, n := range x.Nodes {
		s += fmt.Sprint(i, "  ", text(n), "\n")
	}
	return s
}

// wantNodes asks that the tree of p has just these nodes, and may be.
func wantNodes(t *testing.T, p api.Prog, want ...string) {
	t.Helper()
	x := built(t, p)
	var got []string
	for _, n := range x.Nodes {
		got = append(got, text(n))
	}
	if !slices.Equal(got, want) {
		t.Errorf("the nodes are\n%s, not\n%s", strings.Join(got, "\n"), strings.Join(want, "\n"))
	}
	wantMay(t, x)
}

// wantThread asks that in the tree of one thread with locations x, y, which have 0 and 1 at first, these stand behind what stands ahead of each thread.
func wantThread(t *testing.T, vals int, thread string, want ...string) {
	t.Helper()
	p := prog(t, fmt.Sprint("values ", vals, " init x 0 init y 1"), thread)
	wantNodes(t, p, append([]string{"write rlx 0 0", "write rlx 1 1"}, want...)...)
}

func wantErr(t *testing.T, p api.Prog, want api.Errno) {
	t.Helper()
	x, err := lts.Build(p)
	if err != want || x.Vals != 0 || x.Locs != nil || x.Regs != nil || x.Nodes != nil {
		t.Errorf("Build(%s) = %d with\n%s, not %d", show.Prog(p), err, texts(x), want)
	}
}

func wantMay(t *testing.T, x api.Tree) {
	t.Helper()
	if !lts.May(x) {
		t.Errorf("may not be:\n%s", texts(x))
	}
}

func wantMayNot(t *testing.T, x api.Tree) {
	t.Helper()
	if lts.May(x) {
		t.Errorf("may be:\n%s", texts(x))
	}
}

func wantKids(t *testing.T, x api.Tree, n int, kids ...int) {
	t.Helper()
	if got := lts.Kids(x, n); !slices.Equal(got, kids) {
		t.Errorf("Kids of %d are %d, not %d, in\n%s", n, got, kids, texts(x))
	}
}

// copied is a tree that shares nothing with x.
func copied(x api.Tree) api.Tree {
	x.Locs = slices.Clone(x.Locs)
	x.Regs = slices.Clone(x.Regs)
	for i := range x.Regs {
		x.Regs[i] = slices.Clone(x.Regs[i])
	}
	x.Nodes = slices.Clone(x.Nodes)
	for i := range x.Nodes {
		x.Nodes[i].Regs = slices.Clone(x.Nodes[i].Regs)
	}
	return x
}

// odds are numbers that are far below or above all that there are of anything.
func odds() []int {
	return []int{math.MinInt, math.MinInt + 1, -1 << 32, -256, -9, 17, 63, 64, 65, 255, 256, 257, 1 << 32, 1<<32 + 1, 1 << 62, math.MaxInt}
}

// numbers are odds, and all numbers near those that may be.
func numbers() []int {
	l := odds()
	for n := -3; n <= 7; n++ {
		l = append(l, n)
	}
	return l
}

// mixed is a row of numbers without order, the same at each run.
type mixed uint64

func (m *mixed) below(n int) int {
	*m = *m*6364136223846793005 + 1442695040888963407
	return int(uint64(*m) >> 33 % uint64(n))
}

func pick[T any](m *mixed, l ...T) T { return l[m.below(len(l))] }
