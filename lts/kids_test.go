package lts_test

import (
	"testing"

	"withe/api"
	"withe/lts"
)

func TestKids(t *testing.T) {
	x := base()
	for n, kids := range [][]int{nil, nil, {3, 6}, {4}, {5}, nil, {7}, {8}, nil, {10, 12}, {11}, nil, {13}, nil, nil} {
		wantKids(t, x, n, kids...)
	}
	four := treeOf(t, "values 4 init x 0", "r = load rlx x; if r == 2 { fence sc; fence acq; }", "")
	for n, kids := range [][]int{nil, {2, 3, 4, 7}, nil, nil, {5}, {6}, nil, nil, nil} {
		wantKids(t, four, n, kids...)
	}
}

func TestKidsOfNone(t *testing.T) {
	x := base()
	for _, n := range append(odds(), -3, -2, -1, len(x.Nodes), len(x.Nodes)+1) {
		wantKids(t, x, n)
		wantKids(t, api.Tree{}, n)
	}
	wantKids(t, api.Tree{}, 0)
	wantKids(t, tree(2, "x", "[]", "write rlx 0 0", "0: begin end"), 0)
}

// Whatever t is, Kids are those whose Up is n.
func TestKidsOfOtherTrees(t *testing.T) {
	x := api.Tree{Nodes: []api.Node{{Up: 3}, {Up: 3}, {Up: 2}, {Up: 0, Kind: 9}, {Up: 5}, {Up: 3, Thread: 7}, {Up: -1}, {Up: 8}}}
	for n, kids := range [][]int{{3}, nil, {2}, {0, 1, 5}, nil, {4}, nil, nil} {
		wantKids(t, x, n, kids...)
	}
	wantKids(t, x, -1)
	wantKids(t, x, 8) // what is beyond is no node, though one has it as its Up
	x = base()
	x.Nodes[9].Up, x.Nodes[14].Up = 1, 0
	wantKids(t, x, 0) // what was there first has nothing beneath it
	wantKids(t, x, 1)
}

// A great many nodes are more than may be, but Kids tells of them.
func TestKidsOfMany(t *testing.T) {
	x := api.Tree{Nodes: make([]api.Node, 1<<16)}
	for i := range x.Nodes {
		x.Nodes[i].Up = i / 2
	}
	wantKids(t, x, 1, 2, 3)
	wantKids(t, x, 1000, 2000, 2001)
	wantKids(t, x, 1<<15)
	if lts.May(x) {
		t.Error("may be")
	}
}
