package graph_test

import (
	"slices"
	"testing"

	"moot/api"
	"moot/graph"
)

// groupsOf reads nodes and groups in the chapter's way; the rows have 3 entries.
func groupsOf(t *testing.T, low []int, text, want string) {
	t.Helper()
	l := read(t, text)
	groupsAre(t, 3, low, l, readGroups(t, want))
	slices.Reverse(l)
	groupsAre(t, 3, low, l, readGroups(t, want))
}

func zero() []int { return vec(0, 0, 0) }

func TestP14_2None(t *testing.T) {
	for _, n := range sizes() {
		for _, l := range [][]api.Node{nil, {}} {
			groupsAre(t, n, filled(n, 0), l, nil)
			groupsAre(t, n, filled(n, 7), l, nil)
		}
		for q := range n {
			groupsAre(t, n, filled(n, 0), nodes(free(n, q, 1)), [][]api.Inst{{in(q, 1)}})
			groupsAre(t, n, filled(n, 0), nodes(free(n, q, 9)), [][]api.Inst{{in(q, 9)}})
			groupsAre(t, n, filled(n, 0), nodes(ran(free(n, q, 9))), nil)
		}
	}
}

// What has run is nothing to wait for: by low, and as a Ran node.
func TestP14_2HasRun(t *testing.T) {
	groupsOf(t, vec(0, 4, 0), "0.1 s1 [0 4 0]", "(0.1)")
	groupsOf(t, vec(0, 3, 0), "0.1 s1 [0 4 0]", "none")
	groupsOf(t, vec(0, 3, 0), "0.1 s1 [0 4 0], 1.4 s1 [0 0 0] Ran", "(0.1)")
	groupsOf(t, vec(0, 3, 0), "0.1 s1 [0 5 0], 1.4 s1 [0 0 0] Ran", "none")
	groupsOf(t, vec(0, 3, 0), "0.1 s1 [0 5 0], 1.5 s1 [0 0 0] Ran", "none")
	groupsOf(t, vec(0, 3, 0), "0.1 s1 [0 5 0], 1.5 s1 [0 0 0] Ran, 1.4 s9 [0 0 0]", "(1.4) (0.1)")
	groupsOf(t, zero(), "0.1 s1 [0 1 0], 1.1 s1 [0 0 9] Ran", "(0.1)")
	groupsOf(t, zero(), "0.1 s1 [0 1 0], 1.1 s1 [1 0 0] Ran", "(0.1)")
	groupsOf(t, vec(0, 0, topNum), "0.1 s1 [0 0 1048576]", "(0.1)")
	groupsOf(t, vec(0, 0, topNum-1), "0.1 s1 [0 0 1048576], 2.1048576 s1 [0 0 0]", "(2.1048576) (0.1)")
	groupsOf(t, vec(0, 0, topNum-1), "0.1 s1 [0 0 1048576], 2.1048576 s1 [0 0 0] Ran", "(0.1)")
	groupsOf(t, vec(0, 0, topNum-1), "0.1 s1 [0 0 1048576]", "none")
}

// A Ran node leads nowhere, so what it would wait for holds nobody up, and it makes no circle.
func TestP14_2RanLeadsNowhere(t *testing.T) {
	groupsOf(t, zero(), "0.1 s2 [0 1 0], 1.1 s1 [1 0 1] Ran", "(0.1)")
	groupsOf(t, zero(), "0.1 s5 [0 1 0], 1.1 s1 [0 0 1] Ran, 2.1 s3 [1 0 0]", "(0.1) (2.1)")
	groupsOf(t, zero(), "0.1 s5 [0 1 0], 1.1 s1 [0 0 1], 2.1 s3 [1 0 0]", "(1.1 2.1 0.1)")
}

// Something missing holds up all that wait for it, near by or far off.
func TestP14_2Missing(t *testing.T) {
	groupsOf(t, zero(), "0.1 s1 [0 1 0]", "none")
	groupsOf(t, zero(), "0.1 s1 [0 1 0], 1.1 s1 [0 0 1]", "none")
	groupsOf(t, zero(), "0.1 s1 [0 1 0], 1.1 s1 [0 0 1], 2.1 s1 [0 0 0]", "(2.1) (1.1) (0.1)")
	groupsOf(t, zero(), "0.1 s1 [0 1 0], 1.1 s1 [0 0 1], 2.1 s1 [0 0 0], 0.2 s1 [1 0 2]", "(2.1) (1.1) (0.1)")
	groupsOf(t, zero(), "0.1 s1 [0 1 0], 1.1 s1 [1 0 1], 0.2 s1 [0 0 0], 1.2 s1 [0 1 0]", "(0.2)")
	groupsOf(t, zero(), "0.1 s1 [0 3 0], 1.1 s1 [0 0 0], 1.3 s1 [0 0 0]", "(1.1) (1.3)")
	groupsOf(t, zero(), "0.2 s1 [2 0 0]", "none")
	groupsOf(t, zero(), "0.2 s1 [0 0 0], 0.3 s1 [3 0 0], 0.4 s1 [4 0 0]", "(0.2)")
}

func TestP14_2EdgeToItself(t *testing.T) {
	groupsOf(t, zero(), "0.1 s1 [1 0 0]", "(0.1)")
	groupsOf(t, zero(), "1.1 s1 [0 1 0]", "(1.1)")
	groupsOf(t, vec(0, 0, 8), "2.9 s1 [0 0 9]", "(2.9)")
	groupsOf(t, vec(0, 0, 7), "2.9 s1 [0 0 9]", "none")
	groupsOf(t, vec(0, 0, 8), "2.9 s1 [0 0 10]", "none")
	groupsOf(t, zero(), "0.1 s3 [1 0 0], 0.2 s2 [2 0 0], 0.3 s1 [3 0 0]", "(0.1) (0.2) (0.3)")
	groupsOf(t, zero(), "0.1 s1 [3 0 0], 0.2 s2 [0 0 0], 0.3 s1 [0 0 0]", "(0.3) (0.2) (0.1)")
	groupsOf(t, zero(), "0.1 s1 [2 0 0], 0.2 s2 [3 0 0], 0.3 s3 [3 0 0]", "(0.1 0.2 0.3)")
	groupsOf(t, zero(), "0.1 s9 [0 0 0], 0.2 s1 [3 0 0], 0.3 s3 [0 0 0]", "(0.3) (0.1) (0.2)")
}

func TestP14_2Circles(t *testing.T) {
	groupsOf(t, zero(), "0.1 s1 [0 1 0], 1.1 s1 [0 0 1], 2.1 s1 [1 0 0]", "(0.1 1.1 2.1)")
	groupsOf(t, zero(), "0.1 s3 [0 1 0], 1.1 s2 [0 0 1], 2.1 s1 [1 0 0]", "(2.1 1.1 0.1)")
	groupsOf(t, zero(), "0.1 s1 [2 0 0], 0.2 s1 [1 0 0]", "(0.1 0.2)")
	groupsOf(t, zero(), "0.1 s2 [2 0 0], 0.2 s1 [1 0 0]", "(0.2 0.1)")
	// Two circles that meet in one are one.
	groupsOf(t, zero(), "0.1 s1 [0 1 0], 1.1 s2 [1 0 1], 2.1 s3 [0 1 0]", "(0.1 1.1 2.1)")
	// One that leads into a circle, and one that a circle leads to, are not of it.
	groupsOf(t, zero(), "0.1 s1 [0 1 0], 1.1 s2 [1 0 0], 2.1 s0 [1 0 0]", "(0.1 1.1) (2.1)")
	groupsOf(t, zero(), "0.1 s1 [0 1 0], 1.1 s2 [1 0 1], 2.1 s9 [0 0 0]", "(2.1) (0.1 1.1)")
	// A circle with something missing beside it, and behind it.
	groupsOf(t, zero(), "0.1 s1 [0 1 0], 1.1 s2 [1 0 0], 2.2 s0 [1 0 1]", "(0.1 1.1)")
	groupsOf(t, zero(), "0.1 s1 [0 1 0], 1.1 s2 [1 0 1], 2.2 s9 [0 0 0]", "(2.2)")
}

// A circle inside what another circle waits for.
func TestP14_2CircleBehindCircle(t *testing.T) {
	inner := "0.1 s8 [2 0 0], 0.2 s9 [1 0 0]"
	groupsOf(t, zero(), inner+", 1.1 s2 [1 2 0], 1.2 s1 [0 1 0]", "(0.1 0.2) (1.2 1.1)")
	groupsOf(t, zero(), inner+", 1.1 s2 [0 2 0], 1.2 s1 [2 1 0], 2.1 s0 [0 1 0]", "(0.1 0.2) (1.2 1.1) (2.1)")
	groupsOf(t, zero(), inner+", 1.1 s2 [0 2 0], 1.2 s1 [0 1 0], 2.1 s0 [1 1 0]", "(1.2 1.1) (0.1 0.2) (2.1)")
	groupsOf(t, vec(0, 0, 1), inner+", 1.1 s2 [1 2 0], 1.2 s1 [0 1 2]", "(0.1 0.2)")
	groupsOf(t, vec(0, 0, 1), inner+", 1.1 s2 [1 2 0], 1.2 s1 [0 1 1]", "(0.1 0.2) (1.2 1.1)")
}

// Among those that may go next the lowest rank of a first instance is ahead: by Seq, then Row, then Num.
func TestP14_2OrderOfGroups(t *testing.T) {
	groupsOf(t, zero(), "0.1 s3 [0 0 0], 1.1 s2 [0 0 0], 2.1 s1 [0 0 0]", "(2.1) (1.1) (0.1)")
	groupsOf(t, zero(), "0.1 s1 [0 0 0], 1.1 s1 [0 0 0], 2.1 s1 [0 0 0]", "(0.1) (1.1) (2.1)")
	groupsOf(t, zero(), "0.3 s1 [0 0 0], 0.2 s1 [0 0 0], 0.1 s1 [0 0 0]", "(0.1) (0.2) (0.3)")
	groupsOf(t, zero(), "0.3 s1 [0 0 0], 1.2 s1 [0 0 0], 2.1 s1 [0 0 0]", "(0.3) (1.2) (2.1)")
	groupsOf(t, zero(), "0.3 s2 [0 0 0], 0.2 s1 [0 0 0], 1.1 s2 [0 0 0], 1.2 s1 [0 0 0]", "(0.2) (1.2) (0.3) (1.1)")
	groupsOf(t, zero(), "0.1 s1073741824 [0 0 0], 1.1 s0 [0 0 0]", "(1.1) (0.1)")
	// It is the first instance that counts, and not the others.
	groupsOf(t, zero(), "0.1 s9 [2 0 0], 0.2 s1 [1 0 0], 1.1 s2 [0 2 0], 1.2 s3 [0 1 0], 2.1 s0 [0 0 0]", "(2.1) (0.2 0.1) (1.1 1.2)")
	// What becomes free comes ahead of what was free, if its rank is lower.
	groupsOf(t, zero(), "0.1 s5 [0 0 0], 0.2 s1 [1 0 0], 1.1 s6 [0 0 0]", "(0.1) (0.2) (1.1)")
	groupsOf(t, zero(), "0.1 s5 [0 0 0], 0.2 s7 [1 0 0], 1.1 s6 [0 0 0]", "(0.1) (1.1) (0.2)")
	// One that waits for the group with the highest rank is behind all.
	groupsOf(t, zero(), "0.1 s0 [0 0 1], 1.1 s1 [0 0 0], 1.2 s2 [0 0 0], 2.1 s3 [0 0 0]", "(1.1) (1.2) (2.1) (0.1)")
}

func TestP14_2OrderInsideGroups(t *testing.T) {
	groupsOf(t, zero(), "0.1 s1 [2 2 0], 0.2 s1 [2 2 0], 1.1 s1 [2 2 0], 1.2 s0 [2 2 0]", "(1.2 0.1 0.2 1.1)")
	groupsOf(t, zero(), "0.1 s4 [2 2 0], 0.2 s3 [2 2 0], 1.1 s2 [2 2 0], 1.2 s1 [2 2 0]", "(1.2 1.1 0.2 0.1)")
	groupsOf(t, zero(), "0.10 s1 [0 0 1], 0.9 s1 [0 0 1], 2.1 s1 [0 0 0]", "(2.1) (0.9) (0.10)")
	groupsOf(t, vec(8, 0, 0), "0.10 s1 [9 0 1], 0.9 s1 [10 0 0], 2.1 s1 [10 0 0]", "(0.9 0.10 2.1)")
}

// Deps that reach above all nodes of a row wait for what is missing there.
func TestP14_2FarAbove(t *testing.T) {
	for _, k := range []int{2, 3, 2048, topNum - 1, topNum} {
		l := nodes(node(0, 1, 1, 0, k, 0), node(1, 1, 1, 0, 0, 0), node(2, 1, 1, 1, 0, 0))
		groupsAre(t, 3, zero(), l, [][]api.Inst{{in(1, 1)}})
		groupsAre(t, 3, vec(0, topNum, 0), append(l[:1:1], l[2]), [][]api.Inst{{in(0, 1)}, {in(2, 1)}})
	}
}

func TestP14_2EveryRow(t *testing.T) {
	for _, n := range sizes() {
		low := filled(n, 0)
		for q := range n {
			for r := range n {
				y := free(n, q, 2)
				y.Deps[r] = 1
				z := free(n, r, 1)
				z.Seq = 5
				groupsAre(t, n, low, nodes(y), nil)
				groupsAre(t, n, low, nodes(y, z), [][]api.Inst{{in(r, 1)}, {in(q, 2)}})
				groupsAre(t, n, low, nodes(y, ran(z)), [][]api.Inst{{in(q, 2)}})
				z.Deps[q] = 2
				if q != r {
					groupsAre(t, n, low, nodes(y, z), nil)
					groupsAre(t, n, with(low, q, 1), nodes(y, z), [][]api.Inst{{in(q, 2), in(r, 1)}})
				} else {
					groupsAre(t, n, low, nodes(y, z), [][]api.Inst{{in(q, 2), in(q, 1)}})
				}
			}
		}
	}
}

// Order is the groups, one behind the other; with a fault it is the same fault, and nothing beside it.
func TestP14_3Joined(t *testing.T) {
	d := dice(143)
	for range 2000 {
		n := pick(&d, sizes())
		low, l := d.set(n, d.shape())
		if d.below(4) == 0 {
			l[d.below(len(l))] = pick(&d, append(noNodes(n), l[0]))
		}
		groups, fault := graph.Groups(n, low, l)
		order, e := graph.Order(n, low, l)
		if e != fault || !slices.Equal(order, joined(groups)) {
			t.Fatalf("n %d, low %v, %v: Groups %v, %d, Order %v, %d", n, low, l, groups, fault, order, e)
		}
	}
}
