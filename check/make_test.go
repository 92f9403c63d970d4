package check_test

import (
	"slices"
	"testing"

	"withe/api"
	"withe/check"
)

func num(n int) api.Expr                  { return api.Expr{Op: api.Num, N: n} }
func reg(s string) api.Expr               { return api.Expr{Op: api.Reg, Name: s} }
func pair(op int, a, b api.Expr) api.Expr { return api.Expr{Op: op, Kids: []api.Expr{a, b}} }
func args(l ...api.Expr) []api.Expr       { return l }
func stmts(l ...api.Stmt) []api.Stmt      { return l }

func mem(x string, n int) api.Cond           { return api.Cond{Op: api.Mem, Name: x, N: n} }
func join(op int, kids ...api.Cond) api.Cond { return api.Cond{Op: op, Kids: kids} }
func regIs(thread int, r string, n int) api.Cond {
	return api.Cond{Op: api.RegIs, Thread: thread, Name: r, N: n}
}

func set(r string, e api.Expr) api.Stmt { return api.Stmt{Kind: api.Set, Reg: r, Args: args(e)} }
func load(r, x string) api.Stmt         { return api.Stmt{Kind: api.Load, Reg: r, Loc: x} }
func store(x string, e api.Expr) api.Stmt {
	return api.Stmt{Kind: api.Store, Loc: x, Args: args(e)}
}
func add(r, x string, e api.Expr) api.Stmt {
	return api.Stmt{Kind: api.Add, Reg: r, Loc: x, Args: args(e)}
}
func cas(r, x string, a, b api.Expr) api.Stmt {
	return api.Stmt{Kind: api.Cas, Reg: r, Loc: x, Args: args(a, b)}
}
func fence() api.Stmt { return api.Stmt{Kind: api.Fence, Mode: api.Sc} }
func when(e api.Expr, then, other []api.Stmt) api.Stmt {
	return api.Stmt{Kind: api.If, Args: args(e), Then: then, Else: other}
}

// each is one statement that may be of each Kind, by its number.
func each() []api.Stmt {
	return stmts(api.Stmt{}, set("r", num(1)), load("r", "x"), store("x", num(1)), add("r", "x", num(1)), cas("r", "x", num(1), num(0)), fence(), when(num(1), nil, nil))
}

// prog is a program of three values, two locations, and threads; its first statement is part 3.
func prog(threads ...[]api.Stmt) api.Prog {
	return api.Prog{Name: "a", Vals: 3, Init: []api.Cell{{Loc: "x"}, {Loc: "y", N: 2}}, Threads: threads, Ask: api.Exists, Cond: mem("x", 1)}
}

// bare is a program without locations; its first statement is part 1.
func bare(l ...api.Stmt) api.Prog {
	return api.Prog{Name: "a", Vals: 2, Threads: [][]api.Stmt{l}, Ask: api.Forall, Cond: regIs(0, "r", 1)}
}

// asking is a program with that question, which is part 7: thread 0 sets r, s, thread 1 sets t within an if.
func asking(c api.Cond) api.Prog {
	p := prog(stmts(set("r", num(1)), load("s", "x")), stmts(when(num(0), nil, stmts(set("t", num(1))))))
	p.Cond = c
	return p
}

const question = 7

func wantMay(t *testing.T, p api.Prog, err api.Errno, part int) {
	t.Helper()
	if e, n := check.May(p); e != err || n != part {
		t.Errorf("May(%+v) = %d at %d, not %d at %d", p, e, n, err, part)
	}
}

func wantRegs(t *testing.T, l []api.Stmt, regs ...string) {
	t.Helper()
	if got := check.Regs(l); !slices.Equal(got, regs) {
		t.Errorf("Regs(%+v) = %q, not %q", l, got, regs)
	}
}

func wantStmts(t *testing.T, l []api.Stmt, n int) {
	t.Helper()
	if got := check.Stmts(l); got != n {
		t.Errorf("Stmts(%+v) = %d, not %d", l, got, n)
	}
}

// odds are numbers that are below or above all that there are of anything.
func odds() []int {
	return []int{-1 << 63, -1<<63 + 1, -1 << 32, -2, -1, 9, 10, 255, 256, 257, 258, 1 << 32, 1<<32 + 1, 1<<32 + 2, 1 << 62, 1<<62 + 1, 1<<63 - 1}
}

// wrongNames are names that are none.
func wrongNames() []string {
	return []string{
		"", "abcdefghi", "ninebytes", "1", "1a", "a b", " a", "a ", "a_", "_a", "a-b", "\u00e9", "a\u00e9", "\xff", "a\x00", "a;", "==", "+", "//", "a//", "a\n",
		"litmus", "values", "init", "thread", "load", "add", "cas", "store", "fence", "if", "else", "exists", "forall", "and", "or", "not", "rlx", "acq", "rel", "acqrel", "sc",
	}
}

// rightNames are names that are neither x nor y.
func rightNames() []string {
	return []string{"a", "Z", "r1", "A0z9", "abcdefgh", "EIGHTLET", "Load", "SC", "scs", "i", "ifs", "exist", "X", "x1", "xx"}
}
