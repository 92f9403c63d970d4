package post

import (
	"slices"
	"strconv"

	"withe/api"
)

// compare is below 0, if a is less, above 0, if b is, and 0, if they are the same.
func compare(a, b api.Out) int {
	if by := slices.CompareFunc(a.Regs, b.Regs, slices.Compare[[]int]); by != 0 {
		return by
	}
	return slices.Compare(a.Mem, b.Mem)
}

// regPieces are the pieces of a line that tell of registers, thread by thread.
func regPieces(regs [][]string, vals [][]int) []string {
	var l []string
	for t := range min(len(regs), len(vals)) {
		l = append(l, pieces(strconv.Itoa(t)+":", regs[t], vals[t])...)
	}
	return l
}

// pieces are the pieces of a line that tell of places with a name and a value, all with the same in front.
func pieces(front string, names []string, vals []int) []string {
	var l []string
	for i := range min(len(names), len(vals)) {
		l = append(l, front+names[i]+"="+strconv.Itoa(vals[i]))
	}
	return l
}
