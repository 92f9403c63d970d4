package lts_test

import (
	"fmt"
	"reflect"
	"slices"
	"strings"
	"sync"
	"testing"

	"withe/api"
	"withe/check"
	"withe/lts"
	"withe/parse"
	"withe/show"
)

// fairTrees calls do with programs that may be, and their trees.
func fairTrees(t *testing.T, seeds int, do func(p api.Prog, x api.Tree)) {
	t.Helper()
	some := 0
	for seed := range seeds {
		p := fairProg(seed)
		if x, err := lts.Build(p); err == api.OK {
			some++
			do(p, x)
		}
		if t.Failed() {
			t.FailNow()
		}
	}
	if some < seeds/2 {
		t.Error("only", some, "trees")
	}
}

// What follows: Reads that stand side by side are of one location and mode, and have all values.
func TestReadsSideBySide(t *testing.T) {
	groups := 0
	fairTrees(t, 3000, func(p api.Prog, x api.Tree) {
		for n := range x.Nodes {
			kids := lts.Kids(x, n)
			if len(kids) == 0 || x.Nodes[kids[0]].Kind != api.Read {
				if len(kids) > 1 {
					t.Errorf("%d of\n%s", n, texts(x))
				}
				continue
			}
			groups++
			first := x.Nodes[kids[0]]
			for v, k := range kids {
				if is := x.Nodes[k]; len(kids) != p.Vals || is.Val != v || is.Kind != api.Read || is.Loc != first.Loc || is.Mode != first.Mode {
					t.Errorf("%d beneath %d of\n%s", k, n, texts(x))
				}
			}
		}
	})
	if groups < 3000 {
		t.Error("only", groups)
	}
}

// accesses tells whether something of a block brings a node.
func accesses(l []api.Stmt) bool {
	return slices.ContainsFunc(l, func(s api.Stmt) bool {
		return s.Kind != api.Set && s.Kind != api.If || accesses(s.Then) || accesses(s.Else)
	})
}

// What follows: a thread without accesses has a Begin that is an End.
func TestBeginsThatAreEnds(t *testing.T) {
	without := 0
	fairTrees(t, 3000, func(p api.Prog, x api.Tree) {
		for i, n := range x.Nodes {
			if n.Kind == api.Begin && !accesses(p.Threads[n.Thread]) {
				without++
				if !n.End || len(lts.Kids(x, i)) > 0 || len(n.Regs) != len(x.Regs[n.Thread]) {
					t.Errorf("%d of\n%s", i, texts(x))
				}
			}
		}
	})
	if without < 300 {
		t.Error("only", without)
	}
}

// Each node but the first ones and the Begins is one node's Kid, stands behind it, and what is beneath a node stands right behind it.
func TestKidsOfTrees(t *testing.T) {
	fairTrees(t, 1500, func(p api.Prog, x api.Tree) {
		size := make([]int, len(x.Nodes)+1) // of each node, how many are beneath it
		seen := 0
		for n := len(x.Nodes) - 1; n >= 0; n-- {
			next := n + 1
			for _, k := range lts.Kids(x, n) {
				seen++
				if k != next {
					t.Errorf("%d beneath %d of\n%s", k, n, texts(x))
				}
				next = k + size[k] + 1
			}
			size[n] = next - n - 1
		}
		if seen != len(x.Nodes)-len(p.Init)-len(p.Threads) {
			t.Error(seen, "are beneath others of\n", texts(x))
		}
	})
}

// What a program's threads are one by one they are side by side, but for their numbers.
func TestThreadsOneByOne(t *testing.T) {
	fairTrees(t, 1500, func(p api.Prog, x api.Tree) {
		at := len(p.Init)
		for thread, l := range p.Threads {
			q := p
			q.Threads = [][]api.Stmt{l}
			if len(p.Init) == 0 {
				q.Threads = [][]api.Stmt{l, p.Threads[0]}
				q.Cond.Thread = 1 // whose registers are asked for
			}
			one := built(t, q)
			for i, n := range one.Nodes[len(p.Init):] {
				if n.Thread > 0 {
					break
				}
				n.Thread = thread
				if n.Up >= 0 {
					n.Up += at - i - len(p.Init)
				}
				if text(n) != text(x.Nodes[at]) {
					t.Errorf("%d is %s, not %s", at, text(x.Nodes[at]), text(n))
				}
				at++
			}
			if !slices.Equal(one.Regs[0], x.Regs[thread]) {
				t.Errorf("%q, not %q", x.Regs[thread], one.Regs[0])
			}
		}
		if at != len(x.Nodes) {
			t.Error(at, len(x.Nodes))
		}
	})
}

// What stands within an if whose test holds, or doesn't, might as well stand in its place.
func TestIfsByWhatIsWithin(t *testing.T) {
	when := func(n int, then, other []api.Stmt) []api.Stmt {
		return []api.Stmt{{Kind: api.If, Args: []api.Expr{{Op: api.Num, N: n}}, Then: then, Else: other}}
	}
	ifs := 0
	fairTrees(t, 1500, func(p api.Prog, x api.Tree) {
		for i, l := range p.Threads {
			for at := range l {
				for n, block := range [][]api.Stmt{when(0, l[:at], l[at:]), when(1, l[at:], l[:at])} {
					q := p
					q.Threads = slices.Clone(p.Threads)
					q.Threads[i] = slices.Concat(l[:at], block) // what comes first is there twice, and is walked once
					if err, _ := check.May(q); err != api.OK {
						continue
					}
					ifs++
					if y := built(t, q); texts(y) != texts(x) {
						t.Errorf("with an if %d around it the tree is\n%s, not\n%s", n, texts(y), texts(x))
					}
				}
			}
		}
	})
	if ifs < 1000 {
		t.Error("only", ifs)
	}
}

// A program that is shown and read again has the same tree.
func TestTreesOfTexts(t *testing.T) {
	read := 0
	fairTrees(t, 1500, func(p api.Prog, x api.Tree) {
		again, fault := parse.Parse(show.Prog(p))
		if fault != (api.Fault{}) {
			return
		}
		read++
		if y := built(t, again); texts(y) != texts(x) {
			t.Errorf("read again the tree is\n%s, not\n%s", texts(y), texts(x))
		}
	})
	if read < 500 {
		t.Error("only", read)
	}
}

// roomy puts spare room behind all lists of v, with something in it.
func roomy(v reflect.Value) {
	switch v.Kind() {
	case reflect.Struct:
		for i := range v.NumField() {
			roomy(v.Field(i))
		}
	case reflect.Slice:
		for i := range v.Len() {
			roomy(v.Index(i))
		}
		n := v.Len()
		l := reflect.MakeSlice(v.Type(), n+3, n+3)
		reflect.Copy(l, v)
		if n > 0 {
			l.Index(n).Set(l.Index(0))
		}
		v.Set(l.Slice(0, n))
	}
}

// spelt is all that stands in v, in spare room too, and where it stands.
func spelt(v reflect.Value) string {
	var b strings.Builder
	switch v.Kind() {
	case reflect.Struct:
		for i := range v.NumField() {
			b.WriteString(spelt(v.Field(i)) + ",")
		}
	case reflect.Slice:
		fmt.Fprint(&b, v.Pointer(), v.Len(), v.Cap())
		for i := range v.Cap() {
			b.WriteString(" " + spelt(v.Slice(0, v.Cap()).Index(i)))
		}
	default:
		fmt.Fprint(&b, v.Interface())
	}
	return b.String()
}

func TestNothingHandedInIsChanged(t *testing.T) {
	for seed := range 60 {
		p := fairProg(seed)
		roomy(reflect.ValueOf(&p).Elem())
		was := spelt(reflect.ValueOf(p))
		x, _ := lts.Build(p)
		if spelt(reflect.ValueOf(p)) != was {
			t.Fatalf("Build's program is now %+v", p)
		}
		m := mixed(seed)
		if seed%2 == 0 {
			m.dentTree(&x)
		}
		roomy(reflect.ValueOf(&x).Elem())
		was = spelt(reflect.ValueOf(x))
		lts.May(x)
		for n := range len(x.Nodes) + 1 {
			lts.Kids(x, n)
		}
		if spelt(reflect.ValueOf(x)) != was {
			t.Fatalf("the tree of May and Kids is now\n%s", texts(x))
		}
	}
}

// fill writes over a list and the spare room behind it.
func fill[T any](l []T, v T) {
	l = l[:cap(l)]
	for i := range l {
		l[i] = v
	}
}

// No two lists of a tree share anything, nor with the program, nor with another tree of it.
func TestTreesAreNew(t *testing.T) {
	for seed := range 200 {
		p := fairProg(seed)
		x, err := lts.Build(p)
		if err != api.OK {
			continue
		}
		was := texts(x)
		other := built(t, p)
		shown := show.Prog(p)
		for i := range x.Nodes {
			y := copied(x)
			fill(x.Nodes[i].Regs, 99)
			x.Nodes[i].Regs = y.Nodes[i].Regs
			if texts(x) != was {
				t.Fatalf("the Regs of %d are shared in\n%s", i, was)
			}
		}
		for i := range x.Regs {
			y := copied(x)
			fill(x.Regs[i], "gone")
			x.Regs[i] = y.Regs[i]
			if texts(x) != was {
				t.Fatalf("the Regs of thread %d are shared in\n%s", i, was)
			}
		}
		fill(x.Locs, "gone")
		fill(x.Regs, nil)
		fill(x.Nodes, api.Node{})
		if texts(other) != was || show.Prog(p) != shown {
			t.Fatalf("the program or its other tree shares something with\n%s", was)
		}
		for i := range p.Threads {
			fill(p.Threads[i], api.Stmt{})
		}
		fill(p.Init, api.Cell{})
		fill(p.Threads, nil)
		if texts(other) != was {
			t.Fatalf("the tree shares something with the program:\n%s, not\n%s", texts(other), was)
		}
	}
}

func TestKidsAreNew(t *testing.T) {
	x := base()
	was := texts(x)
	one, two := lts.Kids(x, 2), lts.Kids(x, 2)
	fill(one, 99)
	if !slices.Equal(two, []int{3, 6}) || texts(x) != was {
		t.Error(two, texts(x))
	}
	wantKids(t, x, 2, 3, 6)
	x.Nodes[6].Up = 9
	wantKids(t, x, 2, 3)
	wantKids(t, x, 9, 6, 10, 12)
}

// What was asked ahead of a call, or is asked at the same time, does not matter to it.
func TestCallsDoNotHangOnOthers(t *testing.T) {
	var all sync.WaitGroup
	p := prog(t, "values 3 init x 1", "r = add sc x 2; if r { s = load rlx x; }", "fence sc;")
	want := texts(built(t, p))
	for worker := range 8 {
		all.Go(func() {
			for seed := range 40 {
				q := fairProg(seed*8 + worker)
				if y, err := lts.Build(q); err == api.OK && !lts.May(y) {
					t.Errorf("may not be:\n%s", texts(y))
				}
				lts.Build(api.Prog{})
				lts.May(api.Tree{})
				x, err := lts.Build(p)
				if err != api.OK || texts(x) != want || !lts.May(x) || !slices.Equal(lts.Kids(x, 1), []int{2, 4, 9}) {
					t.Errorf("the tree is\n%s, not\n%s", texts(x), want)
				}
			}
		})
	}
	all.Wait()
}

// Programs with a great many parts, and parts within one another, end, and are refused.
func TestGreatPrograms(t *testing.T) {
	const deep = 1 << 15
	inner := []api.Stmt{{Kind: api.Fence, Mode: api.Sc}}
	e := api.Expr{Op: api.Num}
	for range deep {
		inner = []api.Stmt{{Kind: api.If, Args: []api.Expr{{Op: api.Num}}, Else: inner}}
		e = api.Expr{Op: api.Plus, Kids: []api.Expr{e, {Op: api.Num}}}
	}
	p := prog(t, "values 2 init x 0", "")
	p.Threads[0] = inner
	wantErr(t, p, api.ErrLong)
	p.Threads[0] = []api.Stmt{{Kind: api.Store, Loc: "x", Args: []api.Expr{e}}}
	if _, err := lts.Build(p); err != api.ErrLong {
		t.Error(err)
	}
	p.Threads[0] = make([]api.Stmt, deep)
	for i := range p.Threads[0] {
		p.Threads[0][i] = api.Stmt{Kind: api.Fence, Mode: api.Sc}
	}
	if _, err := lts.Build(p); err != api.ErrLong {
		t.Error(err)
	}
	x := base()
	x.Locs = make([]string, deep)
	wantMayNot(t, x)
	x = base()
	x.Regs[0] = make([]string, deep)
	wantMayNot(t, x)
	x = base()
	x.Regs = make([][]string, deep)
	wantMayNot(t, x)
	x = base()
	x.Nodes[5].Regs = make([]int, deep)
	wantMayNot(t, x)
}
