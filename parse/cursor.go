package parse

import (
	"withe/api"
	"withe/lex"
)

// cursor goes through a text's tokens. Once one may not follow it has none ahead of it: whatever is asked of it then is denied, so that all that is under way ends by itself.
type cursor struct {
	ahead []api.Token
	parts []int // where the parts begin that it has come by
	fault api.Fault
}

// next is the token ahead; of no kind, where there is none.
func (c *cursor) next() api.Token {
	if len(c.ahead) == 0 {
		return api.Token{}
	}
	return c.ahead[0]
}

// refuse tells that the token ahead may not follow. Where none is ahead, an earlier one was refused, and that one is told.
func (c *cursor) refuse() {
	if len(c.ahead) == 0 {
		return
	}
	c.fault = api.Fault{Err: api.ErrForm, At: c.next().At}
	c.ahead = nil
}

// part keeps where a part begins.
func (c *cursor) part() {
	c.parts = append(c.parts, c.next().At)
}

// take goes past the token ahead and tells it, if may says that it may follow; else it is refused.
func (c *cursor) take(may func() bool) api.Token {
	if !may() {
		c.refuse()
		return api.Token{}
	}
	t := c.next()
	c.ahead = c.ahead[1:]
	return t
}

// at tells whether that keyword or sign is ahead. No other token has such a text.
func (c *cursor) at(text string) bool {
	return c.next().Text == text
}

// pass goes past that keyword or sign, if it is ahead.
func (c *cursor) pass(text string) bool {
	if !c.at(text) {
		return false
	}
	c.ahead = c.ahead[1:]
	return true
}

// want goes past that keyword or sign; what else is ahead is refused.
func (c *cursor) want(text string) {
	if !c.pass(text) {
		c.refuse()
	}
}

func (c *cursor) atName() bool {
	t := c.next()
	return t.Kind == api.Word && !lex.Keyword(t.Text)
}

func (c *cursor) atNumber() bool {
	return c.next().Kind == api.Number
}

func (c *cursor) atEnd() bool {
	return c.next().Kind == api.End
}

func (c *cursor) atMode() bool {
	_, ok := modeOf(c.next().Text)
	return ok
}

func (c *cursor) atInit() bool {
	return c.at("init")
}

func (c *cursor) atThread() bool {
	return c.at("thread")
}

func (c *cursor) atStmt() bool {
	return c.atName() || c.at("store") || c.at("fence") || c.at("if")
}

// modeOf is the mode of a text; false, if it is none.
func modeOf(text string) (int, bool) {
	switch text {
	case "rlx":
		return api.Rlx, true
	case "acq":
		return api.Acq, true
	case "rel":
		return api.Rel, true
	case "acqrel":
		return api.AcqRel, true
	case "sc":
		return api.Sc, true
	}
	return 0, false
}

// The calls from here on go past what joins two sides and tell its Op; 0, where it is not ahead.

func (c *cursor) compares() int {
	switch {
	case c.pass("=="):
		return api.Eq
	case c.pass("<"):
		return api.Less
	}
	return 0
}

func (c *cursor) sums() int {
	switch {
	case c.pass("+"):
		return api.Plus
	case c.pass("-"):
		return api.Minus
	}
	return 0
}

func (c *cursor) ors() int {
	if c.pass("or") {
		return api.Or
	}
	return 0
}

func (c *cursor) ands() int {
	if c.pass("and") {
		return api.And
	}
	return 0
}

// many is one thing after the other, as long as may says that another one may follow.
func many[T any](may func() bool, one func() T) []T {
	var l []T
	for may() {
		l = append(l, one())
	}
	return l
}

// grouped is sides with what joins them between, grouped from the left.
func grouped[T any](joins func() int, side func() T, pair func(op int, a, b T) T) T {
	all := side()
	for op := joins(); op != 0; op = joins() {
		all = pair(op, all, side())
	}
	return all
}
