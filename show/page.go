package show

import (
	"strconv"
	"strings"

	"withe/api"
)

// page is what is written so far. All that is shown goes onto one page piece by piece, so that things deep within others are not copied again at each level.
type page struct {
	text   strings.Builder
	margin int // how many blanks stand ahead of a line of the block that is written
}

func (w *page) say(pieces ...string) {
	for _, s := range pieces {
		w.text.WriteString(s)
	}
}

func (w *page) number(n int) {
	w.say(strconv.Itoa(n))
}

// at shows what l has at that place, if anything is there.
func at[T any](l []T, place int, show func(T)) {
	if place < len(l) {
		show(l[place])
	}
}

// pair shows the first two of l, in brackets and with what joins them between.
func pair[T any](w *page, l []T, joins string, show func(T)) {
	w.say("(")
	at(l, 0, show)
	w.say(joins)
	at(l, 1, show)
	w.say(")")
}

func (w *page) expr(e api.Expr) {
	if show := w.exprOf(e.Op); show != nil {
		show(e)
	}
}

// exprOf is what shows expressions of that Op; nil, if it is none.
func (w *page) exprOf(op int) func(api.Expr) {
	switch op {
	case api.Num:
		return w.num
	case api.Reg:
		return w.reg
	case api.Plus:
		return w.plus
	case api.Minus:
		return w.minus
	case api.Eq:
		return w.eq
	case api.Less:
		return w.less
	}
	return nil
}

func (w *page) num(e api.Expr) {
	w.number(e.N)
}

func (w *page) reg(e api.Expr) {
	w.say(e.Name)
}

func (w *page) plus(e api.Expr) {
	pair(w, e.Kids, " + ", w.expr)
}

func (w *page) minus(e api.Expr) {
	pair(w, e.Kids, " - ", w.expr)
}

func (w *page) eq(e api.Expr) {
	pair(w, e.Kids, " == ", w.expr)
}

func (w *page) less(e api.Expr) {
	pair(w, e.Kids, " < ", w.expr)
}

func (w *page) cond(c api.Cond) {
	if show := w.condOf(c.Op); show != nil {
		show(c)
	}
}

// condOf is what shows conditions of that Op; nil, if it is none.
func (w *page) condOf(op int) func(api.Cond) {
	switch op {
	case api.Mem:
		return w.mem
	case api.RegIs:
		return w.regIs
	case api.Not:
		return w.not
	case api.And:
		return w.and
	case api.Or:
		return w.or
	}
	return nil
}

func (w *page) mem(c api.Cond) {
	w.say(c.Name, " == ")
	w.number(c.N)
}

// regIs is a mem with the thread ahead of it.
func (w *page) regIs(c api.Cond) {
	w.number(c.Thread)
	w.say(":")
	w.mem(c)
}

func (w *page) not(c api.Cond) {
	w.say("not ")
	at(c.Kids, 0, w.cond)
}

func (w *page) and(c api.Cond) {
	pair(w, c.Kids, " and ", w.cond)
}

func (w *page) or(c api.Cond) {
	pair(w, c.Kids, " or ", w.cond)
}
