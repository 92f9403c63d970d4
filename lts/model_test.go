package lts_test

import (
	"slices"
	"testing"

	"withe/api"
	"withe/check"
	"withe/lts"
)

// event is a node without where it stands.
type event struct {
	kind, loc, mode, val int
	rmw                  bool
}

// run is a second way of walking a thread: what its Reads read is told ahead.
type run struct {
	vals  int
	locs  []string
	told  []int
	regs  map[string]int
	way   []event
	short bool // there are more Reads than told
}

func (r *run) expr(e api.Expr) int {
	holds := func(is bool) int {
		if is {
			return 1
		}
		return 0
	}
	switch e.Op {
	case api.Num:
		return e.N
	case api.Reg:
		return r.regs[e.Name]
	}
	a, b := r.expr(e.Kids[0]), r.expr(e.Kids[1])
	return (map[int]int{api.Plus: a + b, api.Minus: a - b + r.vals, api.Eq: holds(a == b), api.Less: holds(a < b)})[e.Op] % r.vals
}

func (r *run) block(l []api.Stmt) {
	for _, s := range l {
		if r.short {
			return
		}
		r.stmt(s)
	}
}

func (r *run) stmt(s api.Stmt) {
	var args []int
	for _, e := range s.Args {
		args = append(args, r.expr(e))
	}
	loc := slices.Index(r.locs, s.Loc)
	switch s.Kind {
	case api.Set:
		r.regs[s.Reg] = args[0]
	case api.Store:
		r.way = append(r.way, event{api.Write, loc, s.Mode, args[0], false})
	case api.Fence:
		r.way = append(r.way, event{api.Bar, 0, s.Mode, 0, false})
	case api.If:
		if args[0] != 0 {
			r.block(s.Then)
		} else {
			r.block(s.Else)
		}
	default:
		if r.short = len(r.told) == 0; r.short {
			return
		}
		v := r.told[0]
		r.told = r.told[1:]
		r.way = append(r.way, event{api.Read, loc, s.Mode, v, false})
		if s.Kind == api.Add {
			r.way = append(r.way, event{api.Write, loc, s.Mode, (v + args[0]) % r.vals, true})
		}
		if s.Kind == api.Cas && v == args[0] {
			r.way = append(r.way, event{api.Write, loc, s.Mode, args[1], true})
		}
		r.regs[s.Reg] = v
	}
}

// twig is a node of a tree of ways.
type twig struct {
	event
	kids []*twig
	end  []int // nil, if it is no End
}

// put puts a way into the tree, and tells how many nodes it brings.
func (w *twig) put(way []event, end []int) int {
	if len(way) == 0 {
		w.end = end
		return 0
	}
	for _, k := range w.kids {
		if k.event == way[0] {
			return k.put(way[1:], end)
		}
	}
	k := &twig{event: way[0]}
	w.kids = append(w.kids, k)
	return 1 + k.put(way[1:], end)
}

// number appends the nodes of w and what is beneath it.
func (w *twig) number(nodes []api.Node, thread, up int) []api.Node {
	n := api.Node{Thread: thread, Up: up, Kind: w.kind, Loc: w.loc, Mode: w.mode, Val: w.val, Rmw: w.rmw}
	if w.end != nil {
		n.End, n.Regs = true, w.end
	}
	at := len(nodes)
	nodes = append(nodes, n)
	for _, k := range w.kids {
		nodes = k.number(nodes, thread, at)
	}
	return nodes
}

// modelTree puts all ways of each thread into a tree, and numbers that; false, if there are more nodes than may be.
func modelTree(p api.Prog) (api.Tree, bool) {
	x := api.Tree{Vals: p.Vals}
	for i, c := range p.Init {
		x.Locs = append(x.Locs, c.Loc)
		x.Nodes = append(x.Nodes, node("write rlx 0 0"))
		x.Nodes[i].Loc, x.Nodes[i].Val = i, c.N
	}
	for thread, l := range p.Threads {
		regs := modelRegs(l, nil)
		x.Regs = append(x.Regs, regs)
		root := &twig{event: event{kind: api.Begin}}
		count := len(x.Nodes) + 1
		var all func(told []int)
		all = func(told []int) {
			if count > 64 {
				return
			}
			r := &run{vals: p.Vals, locs: x.Locs, told: told, regs: map[string]int{}}
			r.block(l)
			if r.short {
				for v := range p.Vals {
					all(append(slices.Clip(told), v))
				}
				return
			}
			end := []int{}
			for _, name := range regs {
				end = append(end, r.regs[name])
			}
			count += root.put(r.way, end)
		}
		all(nil)
		if count > 64 {
			return api.Tree{}, false
		}
		x.Nodes = root.number(x.Nodes, thread, -1)
	}
	return x, true
}

// modelRegs adds to known the registers that are set.
func modelRegs(l []api.Stmt, known []string) []string {
	for _, s := range l {
		if s.Reg != "" && !slices.Contains(known, s.Reg) {
			known = append(known, s.Reg)
		}
		known = modelRegs(s.Else, modelRegs(s.Then, known))
	}
	return known
}

// wantModel asks that Build tells what the model tells, and how many nodes these are; 0, if there are none.
func wantModel(t *testing.T, p api.Prog) int {
	t.Helper()
	if err, _ := check.May(p); err != api.OK {
		wantErr(t, p, err)
		return 0
	}
	want, ok := modelTree(p)
	if !ok {
		wantErr(t, p, api.ErrLong)
		return 0
	}
	x := built(t, p)
	if texts(x) != texts(want) {
		t.Errorf("the tree is\n%s, not\n%s", texts(x), texts(want))
	}
	wantMay(t, x)
	kids := modelKids(x)
	for n := -2; n <= len(x.Nodes)+1; n++ {
		wantKids(t, x, n, kids[n]...)
	}
	return len(x.Nodes)
}

// modelKids goes from the Kids to what they are beneath.
func modelKids(x api.Tree) map[int][]int {
	of := map[int][]int{}
	for i, kid := range x.Nodes {
		if kid.Up >= 0 {
			of[kid.Up] = append(of[kid.Up], i)
		}
	}
	return of
}

// modelMay is a second way of saying which trees may be: each node for itself, by what it is beneath and by its Kids.
func modelMay(x api.Tree) bool {
	if x.Vals < 2 || x.Vals > 4 || len(x.Locs) > 4 || len(x.Nodes) > 64 || len(x.Regs) < 1 || len(x.Regs) > 4 || len(x.Nodes) < len(x.Locs) {
		return false
	}
	for _, l := range append([][]string{x.Locs}, x.Regs...) {
		once := map[string]int{}
		for _, name := range l {
			once[name]++
		}
		if len(once) < len(l) || len(l) > 4 {
			return false
		}
	}
	kids := modelKids(x)
	begins := 0
	for i, n := range x.Nodes {
		switch {
		case i < len(x.Locs):
			if n.Thread != -1 || n.Up != -1 || n.Kind != api.Write || n.Loc != i || n.Mode != 0 || n.Val < 0 || n.Val >= x.Vals || n.Rmw || n.End || len(n.Regs) > 0 {
				return false
			}
		case n.Kind == api.Begin:
			if n.Thread != begins || begins == len(x.Regs) || n.Up != -1 || n.Loc != 0 || n.Mode != 0 || n.Val != 0 || n.Rmw || !modelEnd(x, i, kids[i]) {
				return false
			}
			begins++
		default:
			if n.Thread != begins-1 || !modelUp(x, i) || !modelEnd(x, i, kids[i]) || !modelKind(x, i, kids) {
				return false
			}
		}
	}
	return begins == len(x.Regs)
}

// modelUp tells whether the node i stands where a walk puts it.
func modelUp(x api.Tree, i int) bool {
	n := x.Nodes[i]
	if n.Up < len(x.Locs) || n.Up >= i || x.Nodes[n.Up].Thread != n.Thread {
		return false
	}
	if n.Up == i-1 {
		return n.Kind != api.Read || n.Val == 0
	}
	if n.Kind != api.Read || n.Val == 0 {
		return false
	}
	for above := i - 1; ; above = x.Nodes[above].Up { // up from the node ahead to the Read by its side
		if above < 0 {
			return false
		}
		if x.Nodes[above].Up == n.Up {
			by := x.Nodes[above]
			return by.Kind == api.Read && by.Val == n.Val-1 && by.Loc == n.Loc && by.Mode == n.Mode
		}
	}
}

func modelEnd(x api.Tree, i int, kids []int) bool {
	n := x.Nodes[i]
	if n.End != (len(kids) == 0) || !n.End && len(n.Regs) > 0 || n.End && len(n.Regs) != len(x.Regs[n.Thread]) {
		return false
	}
	for _, v := range n.Regs {
		if v < 0 || v >= x.Vals {
			return false
		}
	}
	reads := 0
	for _, k := range kids {
		if x.Nodes[k].Kind == api.Read {
			reads++
		}
	}
	return len(kids) == 0 || len(kids) == 1 && reads == 0 || len(kids) == x.Vals && reads == x.Vals
}

// modelKind tells whether all numbers of the node i go with its Kind.
func modelKind(x api.Tree, i int, kids map[int][]int) bool {
	n := x.Nodes[i]
	up := x.Nodes[n.Up]
	if n.Kind != api.Bar && (n.Loc < 0 || n.Loc >= len(x.Locs) || n.Val < 0 || n.Val >= x.Vals) || n.Mode < 0 || n.Mode > 4 {
		return false
	}
	switch n.Kind {
	case api.Bar:
		return n.Loc == 0 && n.Val == 0 && n.Mode > 0 && !n.Rmw
	case api.Write:
		if n.Rmw {
			return up.Kind == api.Read && up.Loc == n.Loc && up.Mode == n.Mode
		}
		return n.Mode != api.Acq && n.Mode != api.AcqRel
	case api.Read:
		inOne := false
		for _, side := range kids[n.Up] {
			for _, k := range kids[side] {
				inOne = inOne || x.Nodes[k].Rmw
			}
		}
		return !n.Rmw && (inOne || n.Mode != api.Rel && n.Mode != api.AcqRel)
	}
	return false
}

// wantSame asks of May what the model says, and tells it.
func wantSame(t *testing.T, x api.Tree) bool {
	t.Helper()
	may := modelMay(x)
	if lts.May(x) != may {
		t.Fatalf("May is %t of\n%s", !may, texts(x))
	}
	return may
}

// some are statements for all small programs; y has 1 at first.
func some() []string {
	return []string{
		"a = 1;", "b = a + 1;", "a = load rlx x;", "b = load sc y;", "store rel x a;", "store rlx y a + 1;", "a = add rel x 1;", "a = add rlx y a;", "a = cas acqrel x a, 1;", "b = cas sc y 1, a;", "fence acq;",
		"if a { store sc x 1; }", "if a == 0 { a = load acq y; } else { fence rel; }", "if a { if b { a = 0; } else { a = add sc x b; } }",
	}
}

func TestAllSmallPrograms(t *testing.T) {
	was, most := 0, 0
	for _, head := range []string{"values 2 init x 0 init y 1", "values 3 init y 2 init x 0"} {
		for _, one := range some() {
			for _, two := range some() {
				for _, three := range some() {
					n := wantModel(t, prog(t, head, "a = 0; b = 0; "+one+two+three))
					most = max(most, n)
					was++
				}
				wantModel(t, prog(t, head, "a = 0; b = 1;"+one, "b = 0; a = 1;"+two))
			}
			if t.Failed() {
				t.FailNow()
			}
		}
	}
	if was != 2*14*14*14 || most < 40 {
		t.Error(was, most)
	}
}

func TestManyPrograms(t *testing.T) {
	var trees, long, most int
	for seed := range 12000 {
		n := wantModel(t, fairProg(seed))
		most = max(most, n)
		if n > 0 {
			trees++
		} else {
			long++
		}
		if t.Failed() {
			t.FailNow()
		}
	}
	if trees < 7000 || long < 1000 || most != api.MaxNodes {
		t.Error(trees, "trees, as many as", most, "nodes;", long, "too long")
	}
}

// All trees of a first write, a Begin and three nodes with few values for each field.
func TestAllSmallTrees(t *testing.T) {
	x := tree(2, "x", "[]", "write rlx 0 0", "0: begin", "0: 1 bar sc", "0: 2 bar sc", "0: 3 bar sc end")
	may, all := 0, 0
	var node func(i int)
	node = func(i int) {
		if i == len(x.Nodes) {
			all++
			if wantSame(t, x) {
				may++
			}
			return
		}
		for k := range 48 * (i - 1) {
			x.Nodes[i] = api.Node{Val: k % 2, Rmw: k/2%2 > 0, End: k/4%2 > 0, Mode: 2 + k/8%2*2, Kind: 2 + k/16%3, Up: 1 + k/48}
			if x.Nodes[i].Kind == api.Bar && x.Nodes[i].Val > 0 {
				continue // what no Bar may have is asked elsewhere
			}
			node(i + 1)
		}
	}
	node(2)
	// A Bar of two modes, or a Write of two modes and two values, is one of 6. Three of these, one beneath the other; one of them with two Reads (Sc) beneath it;
	// two Reads (Sc) with one of them beneath either; two Reads with a Write with Rmw of two modes and two values beneath either.
	if may != 6*6*6+6+6*2+4*2 || all < 300000 {
		t.Error(may, "of", all, "may be")
	}
}

// trees are trees to be changed.
func trees(t *testing.T) []api.Tree {
	return []api.Tree{
		base(),
		treeOf(t, "values 2 init x 0", "r = load sc x;"),
		treeOf(t, "values 2 init x 0", "r = cas rel x 1, 0;", ""),
		treeOf(t, "values 2 init x 1 init y 0", "fence sc; store rel y 1;", "r = load acq x; if r { s = load rlx y; } else { fence acq; }"),
		treeOf(t, "values 3 init x 2", "r = add acqrel x 1;"),
	}
}

// oneChange are all ways to have one field of one node otherwise.
func oneChange(x api.Tree) (l []func(x *api.Tree)) {
	for i := range x.Nodes {
		of := func(set func(n *api.Node)) { l = append(l, func(x *api.Tree) { set(&x.Nodes[i]) }) }
		for v := -2; v <= 6; v++ {
			of(func(n *api.Node) { n.Thread = v })
			of(func(n *api.Node) { n.Kind = v })
			of(func(n *api.Node) { n.Loc = v })
			of(func(n *api.Node) { n.Mode = v })
			of(func(n *api.Node) { n.Val = v })
		}
		for up := -2; up <= len(x.Nodes); up++ {
			of(func(n *api.Node) { n.Up = up })
		}
		of(func(n *api.Node) { n.Rmw = !n.Rmw })
		of(func(n *api.Node) { n.End = !n.End })
		for _, regs := range [][]int{nil, {0}, {1}, {2}, {-1}, {0, 0}, {0, 1}, {1, 2}, {0, 0, 0}} {
			of(func(n *api.Node) { n.Regs = regs })
		}
	}
	return l
}

func TestAllTreesWithOneChange(t *testing.T) {
	may, not := 0, 0
	for _, x := range trees(t) {
		for _, set := range oneChange(x) {
			y := copied(x)
			set(&y)
			if wantSame(t, y) {
				may++
			} else {
				not++
			}
		}
	}
	if may < 300 || not < 1500 {
		t.Error(may, not)
	}
}

func TestAllTreesWithTwoChanges(t *testing.T) {
	for _, x := range trees(t)[1:3] {
		for _, one := range oneChange(x) {
			for _, two := range oneChange(x) {
				y := api.Tree{Vals: x.Vals, Locs: x.Locs, Regs: x.Regs, Nodes: slices.Clone(x.Nodes)}
				one(&y)
				two(&y)
				wantSame(t, y)
			}
		}
	}
}

// Trees of which nodes are left out, doubled, exchanged, put elsewhere, with the Ups that go with them and without.
func TestNodesPutElsewhere(t *testing.T) {
	for _, x := range trees(t) {
		for i := range x.Nodes {
			for k := range len(x.Nodes) + 1 {
				one := x.Nodes[i]
				y := copied(x)
				y.Nodes = slices.Insert(y.Nodes, k, one)
				wantSame(t, y)
				wantSame(t, moved(y, k, 1))
				y = copied(x)
				y.Nodes = slices.Delete(y.Nodes, i, max(i, k))
				wantSame(t, y)
				wantSame(t, moved(y, i, i-max(i, k)))
				if k < len(x.Nodes) {
					y = copied(x)
					y.Nodes[i], y.Nodes[k] = y.Nodes[k], y.Nodes[i]
					wantSame(t, y)
					wantSame(t, exchanged(y, i, k))
				}
			}
		}
	}
}

// moved is a tree whose Ups from a node on are that much greater.
func moved(x api.Tree, from, by int) api.Tree {
	x = copied(x)
	for i := range x.Nodes {
		if x.Nodes[i].Up >= from {
			x.Nodes[i].Up += by
		}
	}
	return x
}

// exchanged is a tree in whose Ups a is b, and b is a.
func exchanged(x api.Tree, a, b int) api.Tree {
	x = copied(x)
	for i := range x.Nodes {
		switch x.Nodes[i].Up {
		case a:
			x.Nodes[i].Up = b
		case b:
			x.Nodes[i].Up = a
		}
	}
	return x
}

// Trees that are made by the rules, no matter of which program.
func TestMadeTrees(t *testing.T) {
	may, not := 0, 0
	for seed := range 6000 {
		x := madeTree(seed)
		if wantSame(t, x) != (len(x.Nodes) <= api.MaxNodes) {
			t.Fatal("the model's May of what is made by the rules\n", texts(x))
		}
		m := mixed(seed)
		for range 8 {
			y := copied(x)
			for range 1 + m.below(2) {
				m.dentTree(&y)
			}
			if wantSame(t, y) {
				may++
			} else {
				not++
			}
		}
	}
	if may < 3000 || not < 30000 {
		t.Error(may, not)
	}
}
