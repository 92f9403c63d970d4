package lts_test

import (
	"slices"

	"withe/api"
)

// fair makes programs that may be out of parts that may be. Many have a tree, some have more nodes than may be.
type fair struct {
	mixed
	vals  int
	locs  []string
	pool  []string // the registers that a thread may set
	known []string // those that it has set
	left  int      // how many statements it may have yet
	reads int      // of these, how many may read
}

func (f *fair) value() int { return f.below(f.vals) }

func (f *fair) expr(deep int) api.Expr {
	switch {
	case deep > 1 && f.below(2) > 0:
		return api.Expr{Op: 3 + f.below(4), Kids: []api.Expr{f.expr(deep - 1), f.expr(deep - 1)}}
	case len(f.known) > 0 && f.below(3) > 0:
		return api.Expr{Op: api.Reg, Name: pick(&f.mixed, f.known...)}
	}
	return api.Expr{Op: api.Num, N: f.value()}
}

func (f *fair) exprs(n int) (l []api.Expr) {
	for range n {
		l = append(l, f.expr(1+f.below(3)))
	}
	return l
}

// reg is a register that is set.
func (f *fair) reg() string {
	r := pick(&f.mixed, f.pool...)
	if !slices.Contains(f.known, r) {
		f.known = append(f.known, r)
	}
	return r
}

func (f *fair) stmt(ifs int) api.Stmt {
	loc := ""
	kind := pick(&f.mixed, api.Set, api.Fence, api.If, api.If)
	if len(f.locs) > 0 {
		loc = pick(&f.mixed, f.locs...)
		kind = pick(&f.mixed, api.Set, api.Fence, api.If, api.If, api.Store, api.Store, api.Load, api.Load, api.Add, api.Cas)
	}
	if f.reads == 0 && (kind == api.Load || kind == api.Add || kind == api.Cas) {
		kind = api.Store
	}
	switch kind {
	case api.Set:
		args := f.exprs(1)
		return api.Stmt{Kind: kind, Reg: f.reg(), Args: args}
	case api.Fence:
		return api.Stmt{Kind: kind, Mode: 1 + f.below(4)}
	case api.Store:
		return api.Stmt{Kind: kind, Mode: 2 * f.below(3), Loc: loc, Args: f.exprs(1)}
	case api.Load:
		f.reads--
		return api.Stmt{Kind: kind, Mode: pick(&f.mixed, api.Rlx, api.Acq, api.Sc), Loc: loc, Reg: f.reg()}
	case api.Add, api.Cas:
		f.reads--
		args := f.exprs(kind - 3)
		return api.Stmt{Kind: kind, Mode: f.below(5), Loc: loc, Reg: f.reg(), Args: args}
	}
	s := api.Stmt{Kind: kind, Args: f.exprs(1)}
	if ifs < api.MaxDeep {
		s.Then = f.block(ifs + 1)
		s.Else = f.block(ifs + 1)
	}
	return s
}

func (f *fair) block(ifs int) (l []api.Stmt) {
	for f.left > 0 && f.below(4) > 0 {
		f.left--
		l = append(l, f.stmt(ifs))
	}
	return l
}

func (f *fair) thread() (l []api.Stmt) {
	f.pool = pick(&f.mixed, []string{"r", "s", "u", "v"}, []string{"a", "R1"}, []string{"register", "b", "Sc"}, []string{"r"})
	f.known, f.left, f.reads = nil, f.below(17), f.below(4)
	for f.left > 0 && f.below(6) > 0 {
		l = append(l, f.block(0)...)
	}
	return l
}

// fairProg is a program that may be, the same for the same seed.
func fairProg(seed int) api.Prog {
	f := &fair{mixed: mixed(seed)}
	f.below(2)
	f.vals = 2 + f.below(api.MaxVals-1)
	p := api.Prog{Name: "a", Vals: f.vals, Ask: api.Exists}
	for _, loc := range []string{"x", "Y", "location", "w1"}[:f.below(api.MaxLocs+1)] {
		p.Init = append(p.Init, api.Cell{Loc: loc, N: f.value()})
		f.locs = append(f.locs, loc)
	}
	for range 1 + f.below(api.MaxThreads) {
		p.Threads = append(p.Threads, f.thread())
	}
	if len(p.Init) > 0 {
		p.Cond = api.Cond{Op: api.Mem, Name: "x"}
	} else {
		one := api.Expr{Op: api.Num, N: 1}
		p.Threads[0] = append([]api.Stmt{{Kind: api.Set, Reg: f.pool[0], Args: []api.Expr{one}}}, f.thread()...)
		p.Threads[0] = p.Threads[0][:min(len(p.Threads[0]), 1)] // with the first statement alone there is a register to ask for
		p.Cond = api.Cond{Op: api.RegIs, Name: p.Threads[0][0].Reg}
	}
	return p
}

// maker makes trees by the rules that May tells.
type maker struct {
	mixed
	x      api.Tree
	thread int
	left   int // how many nodes it may well have yet
}

func (m *maker) add(n api.Node) int {
	m.left--
	m.x.Nodes = append(m.x.Nodes, n)
	return len(m.x.Nodes) - 1
}

// beneath makes what is beneath a node.
func (m *maker) beneath(n int) {
	up := m.x.Nodes[n]
	kid := api.Node{Thread: m.thread, Up: n}
	choice := m.below(5)
	switch {
	case m.left <= 0 || choice == 0:
		last := &m.x.Nodes[n]
		last.End = true
		for range m.x.Regs[m.thread] {
			last.Regs = append(last.Regs, m.below(m.x.Vals))
		}
	case choice == 1 || len(m.x.Locs) == 0:
		kid.Kind, kid.Mode = api.Bar, 1+m.below(4)
		m.beneath(m.add(kid))
	case choice == 2 && up.Kind == api.Read:
		m.inOne(n)
	case choice == 2:
		kid.Kind, kid.Mode, kid.Loc, kid.Val = api.Write, 2*m.below(3), m.below(len(m.x.Locs)), m.below(m.x.Vals)
		m.beneath(m.add(kid))
	default:
		m.reads(kid)
	}
}

// inOne makes a Write with Rmw beneath the Read n.
func (m *maker) inOne(n int) {
	up := m.x.Nodes[n]
	m.beneath(m.add(api.Node{Thread: m.thread, Up: n, Kind: api.Write, Loc: up.Loc, Mode: up.Mode, Val: m.below(m.x.Vals), Rmw: true}))
}

// reads makes Reads side by side, of any mode, if one of them is in one with a Write.
func (m *maker) reads(kid api.Node) {
	kid.Kind, kid.Mode, kid.Loc = api.Read, pick(&m.mixed, api.Rlx, api.Acq, api.Sc), m.below(len(m.x.Locs))
	sure := -1
	if m.below(2) == 0 {
		kid.Mode, sure = m.below(5), m.below(m.x.Vals)
	}
	for kid.Val = range m.x.Vals {
		if n := m.add(kid); kid.Val == sure {
			m.inOne(n)
		} else {
			m.beneath(n)
		}
	}
}

// madeTree is a tree that may be, if it doesn't have more nodes than may be.
func madeTree(seed int) api.Tree {
	m := &maker{mixed: mixed(seed)}
	m.below(2)
	m.x.Vals = 2 + m.below(3)
	m.left = m.below(60)
	names := []string{"x", "r", "", "a long name that is none"}
	m.x.Locs = names[:m.below(5)]
	for i := range m.x.Locs {
		m.add(api.Node{Thread: -1, Up: -1, Kind: api.Write, Loc: i, Val: m.below(m.x.Vals)})
	}
	for m.thread = range 1 + m.below(4) {
		m.x.Regs = append(m.x.Regs, names[:m.below(5)])
		m.beneath(m.add(api.Node{Thread: m.thread, Up: -1, Kind: api.Begin}))
	}
	return copied(m.x)
}

// dentTree makes one thing of a tree otherwise.
func (m *mixed) dentTree(x *api.Tree) {
	number := func() int { return pick(m, -1, 0, 1, 2, 3, 4, 5, 6) }
	if len(x.Nodes) == 0 || len(x.Regs) == 0 {
		return
	}
	n := &x.Nodes[m.below(len(x.Nodes))]
	switch m.below(14) {
	case 0:
		n.Thread = number()
	case 1:
		n.Up = pick(m, number(), n.Up-1, n.Up+1, m.below(len(x.Nodes)))
	case 2:
		n.Kind = number()
	case 3:
		n.Loc = number()
	case 4, 5:
		n.Mode = number()
	case 6:
		n.Val = number()
	case 7:
		n.Rmw = !n.Rmw
	case 8:
		n.End = !n.End
	case 9:
		n.Regs = append(n.Regs, number())
	case 10:
		if len(n.Regs) > 0 {
			n.Regs[0] = number()
		}
	case 11:
		for i := range x.Nodes { // all that are alike in another way alike
			if x.Nodes[i].Up == n.Up && x.Nodes[i].Kind == n.Kind && i >= len(x.Locs) {
				x.Nodes[i].Mode = number() &^ 1
			}
		}
	case 12:
		x.Nodes = slices.Delete(x.Nodes, len(x.Nodes)-1, len(x.Nodes))
	case 13:
		pick(m, func() { x.Vals = number() }, func() { x.Locs = append(x.Locs, "x") }, func() { x.Regs[0] = append(x.Regs[0], "x") }, func() { x.Regs = append(x.Regs, nil) }, func() { x.Regs = x.Regs[1:] })()
	}
}
