// Package bits: sets of small numbers, each a word of 64 bits: see doc/01-bits.md.
package bits

import word "math/bits"

// size is how many numbers there are that a set may have: 0 to size - 1.
const size = 64

// full is the set of all of them.
const full uint64 = 1<<size - 1

// numbers is a list that a loop over a set can be told to fill.
type numbers struct {
	all []int
}

func (n *numbers) add(i int) {
	n.all = append(n.all, i)
}

// each hands found the numbers of s, rising.
func each(s uint64, found func(i int)) {
	for s != 0 {
		i := word.TrailingZeros64(s)
		found(i)
		s = Drop(s, i)
	}
}

func may(i int) bool {
	return i >= 0 && i < size
}

// only is the set of i alone: empty, if no set may have i, so that putting or dropping it changes nothing.
func only(i int) uint64 {
	if !may(i) {
		return 0
	}
	return 1 << i
}

// below is the set of the numbers below i.
func below(i int) uint64 {
	if i <= 0 {
		return 0
	}
	if i >= size {
		return full
	}
	return 1<<i - 1
}

// Of is the set of those of l that a set may have.
func Of(l []int) uint64 {
	var s uint64
	for _, i := range l {
		s = Put(s, i)
	}
	return s
}

// List is the numbers of s, rising.
func List(s uint64) []int {
	n := numbers{all: make([]int, 0, Count(s))}
	each(s, n.add)
	return n.all
}

// Range is the set of the numbers from lo on and below hi.
func Range(lo, hi int) uint64 {
	return below(hi) &^ below(lo)
}

// Has tells whether i is in s.
func Has(s uint64, i int) bool {
	return s&only(i) != 0
}

// Put is s with i.
func Put(s uint64, i int) uint64 {
	return s | only(i)
}

// Drop is s without i.
func Drop(s uint64, i int) uint64 {
	return s &^ only(i)
}

// Count is how many numbers s has.
func Count(s uint64) int {
	return word.OnesCount64(s)
}

// First is the least number of s; -1, if there is none.
func First(s uint64) int {
	if s == 0 {
		return -1
	}
	return word.TrailingZeros64(s)
}

// Last is the greatest number of s; -1, if there is none.
func Last(s uint64) int {
	// The empty word has a length of 0, which makes this -1 as it should be.
	return word.Len64(s) - 1
}

// Within tells whether t has all that s has.
func Within(s, t uint64) bool {
	return s&^t == 0
}
