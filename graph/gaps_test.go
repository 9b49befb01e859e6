package graph_test

import (
	"slices"
	"testing"
)

// gapsOf reads nodes in the chapter's way.
func gapsOf(t *testing.T, low []int, text, x string, want ...int) {
	t.Helper()
	l := read(t, text)
	gapsAre(t, 3, low, l, readInst(t, x), want...)
	slices.Reverse(l)
	gapsAre(t, 3, low, l, readInst(t, x), want...)
}

// An x that is missing waits for nothing: only its own number is told.
func TestP14_4Missing(t *testing.T) {
	gapsOf(t, zero(), "none", "0.1", 1, 0, 0)
	gapsOf(t, zero(), "none", "1.1048576", 0, 1048576, 0)
	gapsOf(t, vec(0, 0, 6), "none", "2.7", 0, 0, 7)
	gapsOf(t, zero(), "0.1 s1 [0 1 0], 0.3 s1 [0 0 2]", "0.2", 2, 0, 0)
	gapsOf(t, zero(), "0.1 s1 [0 1 0], 0.3 s1 [0 0 2]", "0.4", 4, 0, 0)
	gapsOf(t, zero(), "0.2 s1 [0 1 0]", "0.3", 3, 0, 0)
	gapsOf(t, zero(), "0.3 s1 [0 0 0] Ran", "0.2", 2, 0, 0)
}

func TestP14_4HasRun(t *testing.T) {
	gapsOf(t, vec(3, 0, 0), "none", "0.3", 0, 0, 0)
	gapsOf(t, vec(3, 0, 0), "none", "0.1", 0, 0, 0)
	gapsOf(t, vec(3, 0, 0), "0.5 s1 [9 9 9] Ran", "0.5", 0, 0, 0)
	gapsOf(t, vec(3, 0, 0), "0.5 s1 [9 9 9] Ran", "0.2", 0, 0, 0)
	gapsOf(t, zero(), "0.1 s1 [9 9 9] Ran", "0.1", 0, 0, 0)
	gapsOf(t, vec(0, topNum, 0), "none", "1.1048576", 0, 0, 0)
}

func TestP14_4CanRun(t *testing.T) {
	gapsOf(t, zero(), "0.1 s1 [0 0 0]", "0.1", 0, 0, 0)
	gapsOf(t, zero(), "0.7 s1 [0 0 0]", "0.7", 0, 0, 0)
	gapsOf(t, zero(), "0.1 s1 [1 0 0]", "0.1", 0, 0, 0)
	gapsOf(t, zero(), "0.1 s1 [0 1 0], 1.1 s1 [1 0 1], 2.1 s1 [0 0 0]", "0.1", 0, 0, 0)
	gapsOf(t, vec(0, 0, topNum), "0.1 s1 [0 0 1048576]", "0.1", 0, 0, 0)
	// What others wait for is nothing to x.
	gapsOf(t, zero(), "0.1 s1 [0 0 0], 1.1 s1 [1 0 3]", "0.1", 0, 0, 0)
	gapsOf(t, zero(), "0.1 s1 [0 1 0], 1.1 s1 [0 0 0], 1.2 s1 [1 1 3]", "0.1", 0, 0, 0)
}

func TestP14_4NearAndFar(t *testing.T) {
	gapsOf(t, zero(), "0.1 s1 [0 1 0]", "0.1", 0, 1, 0)
	gapsOf(t, zero(), "0.2 s1 [2 0 0]", "0.2", 1, 0, 0)
	gapsOf(t, zero(), "0.1 s1 [0 1 0], 1.1 s1 [0 0 1]", "0.1", 0, 0, 1)
	gapsOf(t, zero(), "0.1 s1 [0 1 0], 1.1 s1 [0 0 1], 2.1 s1 [3 0 0], 0.2 s1 [0 2 0]", "0.1", 3, 2, 0)
	gapsOf(t, zero(), "0.1 s1 [0 1 0], 1.1 s1 [0 0 1], 2.1 s1 [3 0 0], 0.2 s1 [0 2 0]", "2.1", 3, 2, 0)
	gapsOf(t, zero(), "0.1 s1 [0 1 0], 1.1 s1 [0 0 1], 2.1 s1 [3 0 0], 0.2 s1 [0 2 0]", "0.2", 3, 2, 0)
	gapsOf(t, zero(), "0.1 s1 [0 1 0], 1.1 s1 [0 0 1] Ran", "0.1", 0, 0, 0)
	gapsOf(t, zero(), "0.1 s1 [0 2 0], 1.1 s1 [0 0 1] Ran, 1.2 s1 [0 0 0]", "0.1", 0, 0, 0)
	gapsOf(t, zero(), "0.1 s1 [0 2 0], 1.1 s1 [0 0 1], 1.2 s1 [0 0 0] Ran", "0.1", 0, 0, 1)
	// Round a circle.
	gapsOf(t, zero(), "0.1 s1 [0 1 0], 1.1 s1 [0 0 1], 2.1 s1 [1 0 2]", "0.1", 0, 0, 2)
	gapsOf(t, zero(), "0.1 s1 [0 1 0], 1.1 s1 [0 0 1], 2.1 s1 [1 0 2]", "1.1", 0, 0, 2)
}

// Of several missing ones of one row the least is told; low alone says where a row begins.
func TestP14_4Least(t *testing.T) {
	gapsOf(t, zero(), "0.1 s1 [0 9 0]", "0.1", 0, 1, 0)
	gapsOf(t, vec(0, 4, 0), "0.1 s1 [0 9 0]", "0.1", 0, 5, 0)
	gapsOf(t, vec(0, 4, 0), "0.1 s1 [0 9 0], 1.5 s1 [0 0 0], 1.7 s1 [0 0 0]", "0.1", 0, 6, 0)
	gapsOf(t, vec(0, 4, 0), "0.1 s1 [0 9 0], 1.5 s1 [0 0 0] Ran, 1.6 s1 [0 0 0], 1.8 s1 [0 0 0] Ran", "0.1", 0, 7, 0)
	gapsOf(t, zero(), "0.1 s1 [0 9 9], 1.2 s1 [0 0 0], 2.1 s1 [0 0 0], 2.2 s1 [0 0 0]", "0.1", 0, 1, 3)
	gapsOf(t, zero(), "0.1 s1 [0 1 0], 1.1 s1 [4 0 4], 0.3 s1 [0 3 0]", "0.1", 2, 2, 1)
	gapsOf(t, zero(), "0.1 s1 [0 1 0], 1.1 s1 [4 0 4], 0.3 s1 [0 0 0]", "0.1", 2, 0, 1)
	gapsOf(t, zero(), "0.1 s1 [0 1 0], 1.1 s1 [4 0 4], 0.2 s1 [0 3 0]", "0.1", 3, 2, 1)
}

func TestP14_4FarAbove(t *testing.T) {
	gapsOf(t, zero(), "0.1 s1 [1048576 1048576 1048576]", "0.1", 2, 1, 1)
	gapsOf(t, vec(topNum-1, topNum-1, topNum), "0.1048576 s1 [1048576 1048576 1048576]", "0.1048576", 0, 1048576, 0)
	gapsOf(t, vec(topNum-2, topNum, topNum), "0.1048576 s1 [1048576 1048576 1048576]", "0.1048576", 1048575, 0, 0)
	gapsOf(t, vec(topNum-2, topNum, topNum), "0.1048576 s1 [0 0 0], 0.1048575 s1 [1048576 0 0]", "0.1048575", 0, 0, 0)
}

func TestP14_4EveryRow(t *testing.T) {
	for _, n := range sizes() {
		none := filled(n, 0)
		for q := range n {
			for r := range n {
				y, z := free(n, q, 2), free(n, r, 1)
				y.Deps[r] = 1
				gapsAre(t, n, none, nodes(y), in(q, 2), with(none, r, 1)...)
				gapsAre(t, n, none, nodes(y, z), in(q, 2), none...)
				z.Deps[q] = 4
				missing := 3
				if q != r {
					missing = 1
				}
				gapsAre(t, n, none, nodes(y, z), in(q, 2), with(none, q, missing)...)
				gapsAre(t, n, none, nodes(y, z), in(r, 1), with(none, q, missing)...)
				gapsAre(t, n, none, nodes(y, ran(z)), in(q, 2), none...)
			}
		}
	}
}
