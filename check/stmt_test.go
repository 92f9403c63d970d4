package check_test

import (
	"slices"
	"strconv"
	"strings"
	"testing"

	"withe/api"
)

func many(n int, s api.Stmt) []api.Stmt {
	var l []api.Stmt
	for range n {
		l = append(l, s)
	}
	return l
}

func TestHowManyStatements(t *testing.T) {
	wantMay(t, prog(many(16, fence())), api.OK, 0)
	wantMay(t, prog(many(17, fence())), api.ErrLong, 19)
	wantMay(t, prog(many(40, fence())), api.ErrLong, 19)
	wantMay(t, prog(many(16, fence()), many(16, fence()), many(16, fence()), many(16, fence())), api.OK, 0)
	wantMay(t, prog(many(16, fence()), many(16, fence()), many(16, fence()), many(17, fence())), api.ErrLong, 67)
	wantMay(t, prog(many(3, fence()), many(17, fence()), many(17, fence())), api.ErrLong, 22)
	wantMay(t, bare(append(many(16, set1()), set1())...), api.ErrLong, 17)
	for within := range 15 {
		l := stmts(when(num(1), many(within, fence()), many(14-within, fence())), fence())
		wantMay(t, prog(l), api.OK, 0)
		wantMay(t, prog(stmts(when(num(1), many(within, fence()), many(15-within, fence())), fence())), api.ErrLong, 19)
		wantMay(t, prog(append(l, fence())), api.ErrLong, 19)
	}
	wantMay(t, prog(stmts(when(num(1), many(16, fence()), nil))), api.ErrLong, 19)
	wantMay(t, prog(stmts(when(num(1), nil, many(16, fence())))), api.ErrLong, 19)
	wantMay(t, prog(many(17, when(num(1), nil, nil))), api.ErrLong, 19)
}

// The one more is told as such, whatever else is wrong of it; those ahead of it are told first.
func TestOneStatementMoreAndOtherFaults(t *testing.T) {
	l := append(many(16, fence()), api.Stmt{Kind: 9, Reg: "9"})
	wantMay(t, prog(l), api.ErrLong, 19)
	l[15] = api.Stmt{}
	wantMay(t, prog(l), api.ErrArg, 18)
	l[0] = load("r", "z")
	wantMay(t, prog(l), api.ErrName, 3)
}

// nested is inner within that many ifs, each by one letter of way: t is in Then, e in Else.
func nested(inner []api.Stmt, way string) []api.Stmt {
	for i := len(way) - 1; i >= 0; i-- {
		if way[i] == 't' {
			inner = stmts(when(num(1), inner, nil))
		} else {
			inner = stmts(when(num(1), nil, inner))
		}
	}
	return inner
}

func TestHowManyIfs(t *testing.T) {
	for _, way := range []string{"tttttttt", "eeeeeeee", "tetetete", "etetetet", "ttteeett", "eetteett"} {
		for n := range 9 {
			in := nested(stmts(set1()), way[:n])
			if n <= api.MaxDeep {
				wantMay(t, prog(in), api.OK, 0)
				wantMay(t, prog(nil, in), api.OK, 0)
				wantMay(t, prog(stmts(fence()), append(many(3, fence()), in...)), api.OK, 0)
				wantMay(t, bare(append(many(1, set1()), in...)...), api.OK, 0)
				continue
			}
			wantMay(t, prog(in), api.ErrLong, 10)
			wantMay(t, prog(nil, in), api.ErrLong, 10)
			wantMay(t, prog(stmts(fence()), append(many(3, fence()), in...)), api.ErrLong, 14)
			wantMay(t, bare(append(many(1, set1()), in...)...), api.ErrLong, 9)
		}
		// The seventh if is within six, which may be; only what is within it may not.
		wantMay(t, prog(nested(nil, way[:7])), api.OK, 0)
		wantMay(t, prog(nested(nil, way)), api.ErrLong, 10)
		wantMay(t, prog(nested(stmts(fence(), fence()), way[:7])), api.ErrLong, 10)
		wantMay(t, prog(append(nested(nil, way[:7]), nested(stmts(fence()), way[:6])...)), api.OK, 0)
		wantMay(t, prog(append(nested(nil, way[:7]), nested(stmts(fence()), way[:7])...)), api.ErrLong, 17)
		wantMay(t, prog(nested(stmts(api.Stmt{Kind: 9}), way[:7])), api.ErrLong, 10)
		wantMay(t, prog(nested(stmts(api.Stmt{Kind: 9}), way[:6])), api.ErrArg, 9)
	}
	// In Else as deep as in Then, and no deeper behind ifs than ahead of them.
	wantMay(t, prog(stmts(when(num(1), nested(nil, "tttttt"), nested(nil, "eeeeee")))), api.OK, 0)
	wantMay(t, prog(stmts(when(num(1), nested(nil, "tttttt"), nested(nil, "eeeeeee")))), api.ErrLong, 16)
	wantMay(t, prog(many(12, when(num(1), nil, nil))), api.OK, 0)
}

func TestKindsThatAreNone(t *testing.T) {
	for _, kind := range append(odds(), 0, 8) {
		for _, s := range each() {
			s.Kind = kind
			wantMay(t, prog(stmts(s)), api.ErrArg, 3)
			s.Then = stmts(s)
			wantMay(t, prog(stmts(fence(), s)), api.ErrArg, 4)
		}
	}
}

func TestKindsWithModes(t *testing.T) {
	of := map[int]string{api.Set: "0", api.Load: "014", api.Store: "024", api.Add: "01234", api.Cas: "01234", api.Fence: "1234", api.If: "0"}
	for kind, modes := range of {
		s := each()[kind]
		for mode := -2; mode <= 9; mode++ {
			s.Mode = mode
			if strings.Contains(modes, strconv.Itoa(mode)) {
				wantMay(t, prog(stmts(s)), api.OK, 0)
			} else {
				wantMay(t, prog(stmts(s)), api.ErrArg, 3)
			}
		}
		for _, mode := range odds() {
			s.Mode = mode
			wantMay(t, prog(stmts(s)), api.ErrArg, 3)
		}
	}
}

func TestModesByName(t *testing.T) {
	of := map[int][]int{
		api.Load: {api.Rlx, api.Acq, api.Sc}, api.Store: {api.Rlx, api.Rel, api.Sc}, api.Fence: {api.Acq, api.Rel, api.AcqRel, api.Sc},
		api.Add: {api.Rlx, api.Acq, api.Rel, api.AcqRel, api.Sc}, api.Cas: {api.Rlx, api.Acq, api.Rel, api.AcqRel, api.Sc},
	}
	for kind, modes := range of {
		for _, mode := range []int{api.Rlx, api.Acq, api.Rel, api.AcqRel, api.Sc} {
			s := each()[kind]
			s.Mode = mode
			want, part := api.OK, 0
			if !slices.Contains(modes, mode) {
				want, part = api.ErrArg, 3
			}
			wantMay(t, prog(stmts(s)), want, part)
		}
	}
}

func TestHowManyArgs(t *testing.T) {
	of := map[int]int{api.Set: 1, api.Load: 0, api.Store: 1, api.Add: 1, api.Cas: 2, api.Fence: 0, api.If: 1}
	for kind, n := range of {
		s := each()[kind]
		for k := range 6 {
			s.Args = nil
			for range k {
				s.Args = append(s.Args, num(1))
			}
			if k == n {
				wantMay(t, prog(stmts(s)), api.OK, 0)
				continue
			}
			wantMay(t, prog(stmts(s)), api.ErrArg, 3)
			if k > 0 { // how many is told ahead of what is wrong of one
				s.Args[0] = reg("none")
				wantMay(t, prog(stmts(s)), api.ErrArg, 3)
			}
		}
		s.Args = []api.Expr{}
		if n == 0 {
			wantMay(t, prog(stmts(s)), api.OK, 0)
		} else {
			wantMay(t, prog(stmts(s)), api.ErrArg, 3)
		}
	}
}

func TestStatementsWithinOthersThanIf(t *testing.T) {
	for kind, s := range each() {
		if kind == 0 {
			continue
		}
		for _, in := range [][]api.Stmt{stmts(fence()), make([]api.Stmt, 1), stmts(fence(), fence())} {
			err, part, bad, at := api.ErrArg, 3, api.ErrArg, 3
			if kind == api.If {
				err, part, bad, at = api.OK, 0, api.ErrArg, 4
			}
			if in[0].Kind == 0 {
				err, part = bad, at
			}
			s.Then, s.Else = in, nil
			wantMay(t, prog(stmts(s)), err, part)
			s.Then, s.Else = nil, in
			wantMay(t, prog(stmts(s)), err, part)
			s.Then, s.Else = in, in
			wantMay(t, prog(stmts(s)), err, part)
		}
		s.Then, s.Else = []api.Stmt{}, []api.Stmt{}
		wantMay(t, prog(stmts(s)), api.OK, 0)
	}
}

func TestRegistersThatAreSet(t *testing.T) {
	for kind, s := range each() {
		if kind == 0 {
			continue
		}
		sets := s.Reg != ""
		for _, name := range rightNames() {
			s.Reg = name
			if sets {
				wantMay(t, prog(stmts(s)), api.OK, 0)
			} else {
				wantMay(t, prog(stmts(s)), api.ErrArg, 3)
			}
		}
		for _, name := range append(wrongNames(), "x", "y") {
			s.Reg = name
			switch {
			case sets:
				wantMay(t, prog(stmts(s)), api.ErrName, 3)
			case name == "":
				wantMay(t, prog(stmts(s)), api.OK, 0)
			default:
				wantMay(t, prog(stmts(s)), api.ErrArg, 3)
			}
		}
	}
}

// A location of no init is none, so a register may have its name.
func TestRegistersBesideLocations(t *testing.T) {
	p := prog(stmts(set("z", num(1))))
	wantMay(t, p, api.OK, 0)
	for n := 1; n <= api.MaxLocs; n++ {
		p.Init = cells(n)
		p.Cond = mem("x0", 0)
		for i := range api.MaxLocs + 1 {
			p.Threads[0][0].Reg = "x" + strconv.Itoa(i)
			if i < n {
				wantMay(t, p, api.ErrName, n+1)
			} else {
				wantMay(t, p, api.OK, 0)
			}
		}
	}
}

func TestHowManyRegisters(t *testing.T) {
	four := stmts(set("a", num(0)), load("b", "x"), add("c", "x", num(1)), cas("d", "x", num(1), num(1)))
	wantMay(t, prog(four), api.OK, 0)
	for _, s := range each()[1:] {
		if s.Reg == "" {
			wantMay(t, prog(append(four[:4:4], s)), api.OK, 0)
			continue
		}
		for _, known := range []string{"a", "b", "c", "d"} {
			s.Reg = known
			wantMay(t, prog(append(four[:4:4], s, s)), api.OK, 0)
		}
		s.Reg = "e"
		wantMay(t, prog(append(four[:4:4], s)), api.ErrLong, 7)
		wantMay(t, prog(append(append(four[:4:4], four...), fence(), s)), api.ErrLong, 12)
		wantMay(t, prog(four, four, append(four[:3:3], s), append(four[:4:4], s)), api.ErrLong, 19)
		wantMay(t, prog(append(four[:4:4], nested(stmts(fence(), s), "te")...)), api.ErrLong, 10)
		s.Reg = "9"
		wantMay(t, prog(append(four[:4:4], s)), api.ErrName, 7)
		s.Reg = "x"
		wantMay(t, prog(append(four[:4:4], s)), api.ErrName, 7)
	}
	within := stmts(when(num(1), four[:2], four[2:]))
	wantMay(t, prog(append(within, set("b", num(1)))), api.OK, 0)
	wantMay(t, prog(append(within, set("e", num(1)))), api.ErrLong, 8)
	wantMay(t, prog(stmts(when(num(1), four, four), set("e", num(1)))), api.ErrLong, 12)
	wantMay(t, prog(stmts(when(num(1), four, stmts(set("e", num(1)))))), api.ErrLong, 8)
	wantMay(t, prog(stmts(set("e", num(1)), when(num(1), four, nil))), api.ErrLong, 8)
}

func TestLocations(t *testing.T) {
	for kind, s := range each() {
		if kind == 0 {
			continue
		}
		has := s.Loc != ""
		for _, name := range append(append(wrongNames(), rightNames()...), "x", "y", "r") {
			s.Loc = name
			known := name == "x" || name == "y"
			switch {
			case has && !known:
				wantMay(t, prog(stmts(s)), api.ErrName, 3)
			case !has && name != "":
				wantMay(t, prog(stmts(s)), api.ErrArg, 3)
			default:
				wantMay(t, prog(stmts(s)), api.OK, 0)
			}
		}
		if has {
			s.Loc = "x"
			p := bare(set1(), s) // each Num of it is 0 or 1
			wantMay(t, p, api.ErrName, 2)
			p.Init = []api.Cell{{Loc: "w"}, {Loc: "z"}, {Loc: "y"}, {Loc: "x"}}
			wantMay(t, p, api.OK, 0)
			p.Init = p.Init[:3]
			wantMay(t, p, api.ErrName, 5)
		}
	}
}

// dent makes one thing wrong of a statement, which is told by err.
type dent struct {
	err  api.Errno
	make func(s *api.Stmt)
}

// dents are what may be wrong of a statement of that Kind, in the order in which it is told.
func dents(kind int) []dent {
	s := each()[kind]
	l := []dent{
		{api.ErrArg, func(s *api.Stmt) { s.Mode = 5 }},
	}
	if kind != api.If {
		l = append(l, dent{api.ErrArg, func(s *api.Stmt) { s.Then = stmts(fence()) }}, dent{api.ErrArg, func(s *api.Stmt) { s.Else = stmts(fence()) }})
	}
	if s.Reg != "" {
		l = append(l, dent{api.ErrName, func(s *api.Stmt) { s.Reg = "x" }}, dent{api.ErrName, func(s *api.Stmt) { s.Reg = "" }})
	} else {
		l = append(l, dent{api.ErrArg, func(s *api.Stmt) { s.Reg = "r" }})
	}
	if s.Loc != "" {
		l = append(l, dent{api.ErrName, func(s *api.Stmt) { s.Loc = "z" }})
	} else {
		l = append(l, dent{api.ErrArg, func(s *api.Stmt) { s.Loc = "x" }})
	}
	for i := range s.Args {
		l = append(l,
			dent{api.ErrLong, func(s *api.Stmt) { s.Args[i] = chain(7, api.Plus, api.Expr{}) }},
			dent{api.ErrArg, func(s *api.Stmt) { s.Args[i] = pair(api.Plus, num(3), reg("q")) }},
			dent{api.ErrName, func(s *api.Stmt) { s.Args[i] = pair(api.Plus, reg("q"), num(3)) }},
		)
	}
	return l
}

// Of two things that are wrong of a statement the first is told; both are made, the second one ahead of the first one, as some stand in the same place.
func TestOrderWithinAStatement(t *testing.T) {
	for kind := api.Set; kind <= api.If; kind++ {
		l := dents(kind)
		for i := range l {
			for k := range l[i:] {
				s := each()[kind]
				l[i+k].make(&s)
				l[i].make(&s)
				wantMay(t, prog(stmts(s)), l[i].err, 3)
				wantMay(t, prog(stmts(fence()), stmts(when(num(1), nil, stmts(s, api.Stmt{})))), l[i].err, 5)
				wantMay(t, prog(append(many(16, fence()), s)), api.ErrLong, 19)
				s.Kind = 0
				wantMay(t, prog(stmts(s)), api.ErrArg, 3)
			}
		}
	}
}

// A register that is one more is told ahead of a location that is none, and of Args, but behind what is no name.
func TestOrderOfOneRegisterMore(t *testing.T) {
	four := stmts(set("a", num(0)), set("b", num(0)), set("c", num(0)), set("d", num(0)))
	for _, s := range each()[1:] {
		if s.Reg == "" {
			continue
		}
		s.Reg = "e"
		bad := s
		bad.Loc = "z"
		wantMay(t, prog(append(four[:4:4], bad)), api.ErrLong, 7)
		bad.Mode = 9
		wantMay(t, prog(append(four[:4:4], bad)), api.ErrArg, 7)
		if len(s.Args) > 0 {
			s.Args[0] = num(9)
			wantMay(t, prog(append(four[:4:4], s)), api.ErrLong, 7)
		}
	}
}

// An if is told ahead of what is within it, Then ahead of Else, both ahead of what stands behind.
func TestOrderOfStatements(t *testing.T) {
	bad, none := load("r", "z"), api.Stmt{}
	wantMay(t, prog(stmts(when(num(9), stmts(bad), stmts(none)), none)), api.ErrArg, 3)
	wantMay(t, prog(stmts(when(num(1), stmts(bad), stmts(none)), none)), api.ErrName, 4)
	wantMay(t, prog(stmts(when(num(1), stmts(fence()), stmts(bad)), none)), api.ErrName, 5)
	wantMay(t, prog(stmts(when(num(1), stmts(fence()), stmts(fence())), bad), stmts(none)), api.ErrName, 6)
	wantMay(t, prog(stmts(when(num(1), stmts(fence()), stmts(fence())), fence()), stmts(bad, none)), api.ErrName, 7)
	wantMay(t, prog(stmts(when(num(1), nested(stmts(fence(), fence()), "tet"), nested(stmts(bad), "et")), none)), api.ErrName, 11)
	wantMay(t, bare(stmts(when(num(1), stmts(set1()), stmts(bad)), none)...), api.ErrName, 3)
}
