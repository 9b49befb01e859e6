package graph_test

import (
	"slices"
	"testing"

	"moot/api"
)

// free is a node that waits for nothing.
func free(n, row, num int) api.Node {
	return api.Node{Inst: in(row, num), Seq: 1, Deps: filled(n, 0)}
}

// row is a row's first nodes.
func row(n, q, count int) []api.Node {
	var out []api.Node
	for i := range count {
		out = append(out, free(n, q, i+1))
	}
	return out
}

// noNodes are nodes that may not be, with low 3 in each row; each has one thing amiss.
func noNodes(n int) []api.Node {
	good := free(n, 1, 4)
	var out []api.Node
	for _, q := range append(wild(), -n, -1, n, n+1, 7, 8, 256) {
		out = append(out, api.Node{Inst: in(q, 4), Seq: 1, Deps: filled(n, 0)})
	}
	for _, k := range append(wild(), -4, -1, 0, 1, 2, 3, topNum+1, topNum+2, 2*topNum) {
		out = append(out, api.Node{Inst: in(1, k), Seq: 1, Deps: filled(n, 0)})
	}
	for _, s := range append(wild(), -2, -1, topSeq+1, topSeq+2) {
		y := good
		y.Seq = s
		out = append(out, y)
	}
	for _, d := range noVectors(n) {
		y := good
		y.Deps = d
		out = append(out, y)
	}
	return out
}

// noVectors are no vectors of n entries.
func noVectors(n int) [][]int {
	out := [][]int{nil, {}}
	for _, size := range []int{1, 2, n - 2, n - 1, n + 1, n + 2, 7, 8, 9, 256 + n} {
		if size != n {
			out = append(out, filled(size, 0))
		}
	}
	for _, k := range append(wild(), -1, -2, topNum+1, topNum+2) {
		for i := range n {
			out = append(out, with(filled(n, 0), i, k))
		}
	}
	return out
}

func TestP14_1Sizes(t *testing.T) {
	for _, n := range noSizes() {
		refused(t, n, nil, nil, api.ErrSize)
		for size := range 10 {
			refused(t, n, filled(size, 0), nil, api.ErrSize)
		}
		refused(t, n, vec(-1), append(row(3, 0, 2049), free(3, 9, 9)), api.ErrSize)
		gapsRefused(t, n, vec(0, 0, 0), nil, in(-1, 0), api.ErrSize)
	}
	for _, n := range sizes() {
		groupsAre(t, n, filled(n, 0), nodes(free(n, n-1, 1)), [][]api.Inst{{in(n-1, 1)}})
		gapsAre(t, n, filled(n, 0), nodes(free(n, n-1, 1)), in(n-1, 1), filled(n, 0)...)
	}
}

func TestP14_1Low(t *testing.T) {
	for _, n := range sizes() {
		for _, low := range noVectors(n) {
			refused(t, n, low, nil, api.ErrArg)
			refused(t, n, low, append(row(n, 0, 2049), free(n, n, 0)), api.ErrArg)
			gapsRefused(t, n, low, nil, in(n, 0), api.ErrArg)
		}
		for i := range n {
			for _, k := range []int{0, 1, topNum - 1, topNum} {
				refused(t, n, with(filled(n, 0), i, k), nil, api.OK)
			}
		}
		groupsAre(t, n, filled(n, topNum), nil, nil)
		groupsAre(t, n, filled(n, topNum-1), nodes(free(n, 2, topNum)), [][]api.Inst{{in(2, topNum)}})
	}
}

func TestP14_1WhoseGaps(t *testing.T) {
	for _, n := range sizes() {
		low := filled(n, 0)
		for _, q := range append(wild(), -n, -1, n, n+1, 7, 8) {
			for _, k := range []int{0, 1, topNum} {
				gapsRefused(t, n, low, nil, in(q, k), api.ErrArg)
				gapsRefused(t, n, low, row(n, 0, 2049), in(q, k), api.ErrArg)
				gapsRefused(t, n, low, nodes(free(n, n, 1)), in(q, k), api.ErrArg)
			}
		}
		for _, k := range append(wild(), -2, -1, 0, topNum+1, topNum+2) {
			gapsRefused(t, n, low, nil, in(0, k), api.ErrArg)
			gapsRefused(t, n, filled(n, topNum), nil, in(n-1, k), api.ErrArg)
		}
		for q := range n {
			for _, k := range []int{1, 2, topNum - 1, topNum} {
				gapsAre(t, n, low, nil, in(q, k), with(filled(n, 0), q, k)...)
				gapsAre(t, n, with(low, q, k), nil, in(q, k), filled(n, 0)...)
				gapsAre(t, n, with(low, q, k-1), nil, in(q, k), with(filled(n, 0), q, k)...)
			}
		}
	}
}

func TestP14_1Many(t *testing.T) {
	for _, n := range sizes() {
		low, all := filled(n, 0), row(n, n-1, topNodes+1)
		refused(t, n, low, all[:topNodes], api.OK)
		refused(t, n, low, all, api.ErrGraphMany)
		for i := range all {
			all[i].Ran = true
		}
		refused(t, n, low, all[:topNodes], api.OK)
		refused(t, n, low, all, api.ErrGraphMany)
		all[0] = free(n, n, 0)
		all[1] = all[2]
		refused(t, n, low, all, api.ErrGraphMany)
		refused(t, n, low, all[:topNodes], api.ErrGraphNode)
	}
}

func TestP14_1Node(t *testing.T) {
	for _, n := range sizes() {
		low := filled(n, 3)
		for _, bad := range noNodes(n) {
			for _, y := range nodes(bad, ran(bad)) {
				refused(t, n, low, nodes(y), api.ErrGraphNode)
				refused(t, n, low, nodes(free(n, 0, 4), free(n, 1, 5), y, free(n, 2, 9)), api.ErrGraphNode)
				refused(t, n, low, nodes(y, y), api.ErrGraphNode)
				refused(t, n, low, nodes(free(n, 0, 4), y, free(n, 0, 4)), api.ErrGraphNode)
				refused(t, n, low, nodes(free(n, 0, 4), free(n, 0, 4), y), api.ErrGraphTwice)
			}
		}
	}
}

// A node's edges of what may be.
func TestP14_1GoodNodes(t *testing.T) {
	for _, n := range sizes() {
		for q := range n {
			for _, k := range []int{4, 5, topNum - 1, topNum} {
				for _, seq := range []int{0, 1, topSeq - 1, topSeq} {
					y := api.Node{Inst: in(q, k), Seq: seq, Deps: filled(n, 3)}
					groupsAre(t, n, filled(n, 3), nodes(y), [][]api.Inst{{in(q, k)}})
					groupsAre(t, n, filled(n, 3), nodes(ran(y)), nil)
					y.Deps = filled(n, topNum)
					groupsAre(t, n, filled(n, 3), nodes(y), nil)
				}
			}
		}
	}
}

// low counts by the node's own row alone.
func TestP14_1AboveLow(t *testing.T) {
	for _, n := range sizes() {
		for q := range n {
			low := with(filled(n, 0), q, 5)
			refused(t, n, low, nodes(free(n, q, 5)), api.ErrGraphNode)
			refused(t, n, low, nodes(free(n, q, 6)), api.OK)
			refused(t, n, low, nodes(free(n, (q+1)%n, 5)), api.OK)
			refused(t, n, with(filled(n, 5), q, 4), nodes(free(n, q, 5)), api.OK)
			refused(t, n, with(filled(n, 0), q, topNum), nodes(free(n, q, topNum)), api.ErrGraphNode)
		}
	}
}

func TestP14_1Twice(t *testing.T) {
	for _, n := range sizes() {
		low := filled(n, 0)
		x, y, z := free(n, 0, 1), free(n, 1, 1), free(n, 0, 2)
		other := api.Node{Inst: in(0, 1), Seq: 7, Deps: filled(n, 2)}
		for _, l := range [][]api.Node{
			{x, x}, {x, other}, {x, ran(x)}, {ran(x), x}, {ran(x), ran(other)}, {x, y, z, x}, {y, x, z, other}, {x, y, y}, {z, x, y, z},
			{x, x, free(n, 0, 0)}, {x, x, free(n, n, 1)}, append(row(n, 0, 2047), x),
		} {
			refused(t, n, low, l, api.ErrGraphTwice)
		}
		refused(t, n, low, nodes(x, y, z), api.OK)
		refused(t, n, low, nodes(x, free(n, 0, 0), x), api.ErrGraphNode)
	}
}

// A second node of one instance that has something amiss of its own is no node.
func TestP14_1NodeAheadOfTwice(t *testing.T) {
	for _, n := range sizes() {
		for _, bad := range noNodes(n) {
			refused(t, n, filled(n, 3), nodes(free(n, 1, 4), bad), api.ErrGraphNode)
		}
	}
}

// However the faults stand, the first one in the list is told.
func TestP14_1FirstFault(t *testing.T) {
	d := dice(141)
	for range 1000 {
		n := pick(&d, sizes())
		all := slices.Concat(noNodes(n)[:d.below(40)], row(n, 1, 8)[3:], row(n, 0, 6)[3:], row(n, 2, 5)[3:])
		l := shuffled(&d, all)[:1+d.below(8)]
		if d.below(2) == 0 {
			l = append(l, pick(&d, l))
		}
		refused(t, n, filled(n, 3), l, firstFault(n, filled(n, 3), l))
	}
}
