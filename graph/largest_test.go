package graph_test

import (
	"slices"
	"testing"
	"time"

	"moot/api"
	"moot/graph"
)

// enough is far more than some millions of machine steps take for some calls, on any machine, however busy, and less
// than it takes to go through rows number by number.
const enough = 30 * time.Second

// inTime calls f, and asks for it to end soon.
func inTime(t *testing.T, f func()) {
	t.Helper()
	begin := time.Now()
	f()
	if took := time.Since(begin); took > enough {
		t.Fatalf("it took %v", took)
	}
}

// grid are count nodes that wait for nothing, spread over all rows, their numbers step apart.
func grid(n, count, step int) []api.Node {
	var out []api.Node
	for i := range count {
		out = append(out, free(n, i%n, step*(1+i/n)))
	}
	return out
}

// lowOf is the highest low that leaves the nodes above it.
func lowOf(n int, l []api.Node) []int {
	low := filled(n, topNum)
	for _, y := range l {
		low[y.Inst.Row] = min(low[y.Inst.Row], y.Inst.Num-1)
	}
	return low
}

// alone is a group for each node, as they stand.
func alone(l []api.Node) [][]api.Inst {
	var out [][]api.Inst
	for _, y := range l {
		out = append(out, []api.Inst{y.Inst})
	}
	return out
}

// backwards is a copy, the other way round.
func backwards[T any](l []T) []T {
	out := slices.Clone(l)
	slices.Reverse(out)
	return out
}

// everyWay asks for the same groups however the nodes stand.
func everyWay(t *testing.T, n int, low []int, l []api.Node, want [][]api.Inst) {
	t.Helper()
	d := dice(146)
	inTime(t, func() {
		for _, way := range [][]api.Node{l, backwards(l), shuffled(&d, l)} {
			groupsAre(t, n, low, way, want)
		}
	})
}

// gapsEverywhere asks for the same gaps of some nodes.
func gapsEverywhere(t *testing.T, n int, low []int, l []api.Node, want []int) {
	t.Helper()
	inTime(t, func() {
		for i := 0; i < len(l); i += 509 {
			gapsAre(t, n, low, l, l[i].Inst, want...)
		}
	})
}

func TestP14_6NoneWaiting(t *testing.T) {
	for _, n := range sizes() {
		for _, step := range []int{1, 1000} {
			l := grid(n, topNodes, step)
			for i := range l {
				l[i].Seq = 5000 - i
			}
			everyWay(t, n, filled(n, 0), l, alone(backwards(l)))
			gapsEverywhere(t, n, filled(n, 0), l, filled(n, 0))
		}
	}
}

func TestP14_6OneCircle(t *testing.T) {
	for _, n := range sizes() {
		l := grid(n, topNodes, 1)
		for i := range l {
			next := l[(i+1)%len(l)].Inst
			l[i].Deps[next.Row] = next.Num
		}
		slices.SortFunc(l, rankOrder)
		everyWay(t, n, filled(n, 0), l, [][]api.Inst{insts(l)})
		gapsEverywhere(t, n, filled(n, 0), l, filled(n, 0))
	}
}

// Each waits for all others: one circle, or, where the rows have gaps, none that can run.
func TestP14_6ForEachOther(t *testing.T) {
	for _, n := range sizes() {
		for _, step := range []int{1, 500} {
			l := grid(n, topNodes, step)
			top := filled(n, 0)
			for _, y := range l {
				top[y.Inst.Row] = max(top[y.Inst.Row], y.Inst.Num)
			}
			for i := range l {
				l[i].Deps = top
				l[i].Seq = i * 7 % 2048
			}
			slices.SortFunc(l, rankOrder)
			if step == 1 {
				everyWay(t, n, filled(n, 0), l, [][]api.Inst{insts(l)})
				gapsEverywhere(t, n, filled(n, 0), l, filled(n, 0))
			} else {
				everyWay(t, n, filled(n, 0), l, nil)
				gapsEverywhere(t, n, filled(n, 0), l, filled(n, 1))
				gapsEverywhere(t, n, lowOf(n, l), l, filled(n, step+1))
			}
		}
	}
}

// A chain: each waits for the one ahead of it, and so for all of its row up to that; the ranks stand the other way.
func TestP14_6Chain(t *testing.T) {
	for _, n := range sizes() {
		l := grid(n, topNodes, 1)
		for i := range l {
			l[i].Seq = topSeq - i
			if i > 0 {
				l[i].Deps[(i-1)%n] = 1 + (i-1)/n
			}
		}
		everyWay(t, n, filled(n, 0), l, alone(l))
		gapsEverywhere(t, n, filled(n, 0), l, filled(n, 0))
		everyWay(t, n, filled(n, 0), l[1:], nil)
		gapsEverywhere(t, n, filled(n, 0), l[1:], with(filled(n, 0), 0, 1))
	}
}

// Each waits for all ahead of it.
func TestP14_6ForAllAhead(t *testing.T) {
	for _, n := range sizes() {
		l := grid(n, topNodes, 1)
		for i := range l {
			l[i].Seq = (i * 1031) % 4096
			for j := max(0, i-n); j < i; j++ {
				l[i].Deps[j%n] = 1 + j/n
			}
		}
		everyWay(t, n, filled(n, 0), l, alone(l))
		gapsEverywhere(t, n, filled(n, 0), l, filled(n, 0))
	}
}

// One row, in which each waits for all behind it too.
func TestP14_6ForAllBehind(t *testing.T) {
	for _, n := range sizes() {
		l := row(n, 1, topNodes)
		for i := range l {
			l[i].Deps[1] = topNodes
			l[i].Seq = topNodes - i
		}
		everyWay(t, n, filled(n, 0), l, [][]api.Inst{insts(backwards(l))})
		everyWay(t, n, filled(n, 0), l[1:], nil)
		gapsEverywhere(t, n, filled(n, 0), l, filled(n, 0))
		gapsEverywhere(t, n, filled(n, 0), l[1:], with(filled(n, 0), 1, 1))
	}
}

// Two rows: the first of the one waits for all of the other, the second for all but the last, and so on.
func TestP14_6Staircase(t *testing.T) {
	for _, n := range sizes() {
		l, half := grid(n, 0, 1), topNodes/2
		for i := range half {
			y := free(n, 0, half-i)
			y.Deps[1] = i + 1
			l = append(l, free(n, 1, i+1), y)
			l[2*i].Seq, l[2*i+1].Seq = half-i, 3*half
		}
		for i := range l {
			if y := &l[i]; y.Inst.Row == 1 {
				y.Deps[1] = y.Inst.Num - 1
			}
		}
		want := append(alone(ofRow(l, 1)), alone(backwards(ofRow(l, 0)))...)
		everyWay(t, n, filled(n, 0), l, want)
		gapsEverywhere(t, n, filled(n, 0), l, filled(n, 0))
	}
}

func ofRow(l []api.Node, q int) []api.Node {
	var out []api.Node
	for _, y := range l {
		if y.Inst.Row == q {
			out = append(out, y)
		}
	}
	return out
}

// Deps far above all nodes, and numbers far above low: no row is gone through number by number.
func TestP14_6FarAbove(t *testing.T) {
	for _, n := range sizes() {
		l := grid(n, topNodes, 1)
		for i := range l {
			l[i].Deps = filled(n, topNum)
		}
		gap := filled(n, topNodes/n+1)
		for q := range topNodes % n {
			gap[q]++
		}
		everyWay(t, n, filled(n, 0), l, nil)
		gapsEverywhere(t, n, filled(n, 0), l, gap)
		for i := range l {
			l[i].Inst.Num = topNum - i/n
		}
		low := lowOf(n, l)
		slices.SortFunc(l, rankOrder)
		everyWay(t, n, low, l, [][]api.Inst{insts(l)})
		gapsEverywhere(t, n, low, l, filled(n, 0))
		everyWay(t, n, filled(n, 0), l, nil)
		gapsEverywhere(t, n, filled(n, 0), l, filled(n, 1))
	}
}

// The errors too.
func TestP14_6Refused(t *testing.T) {
	many := slices.Repeat(row(3, 0, topNodes), 100)
	inTime(t, func() { refused(t, 3, zero(), many, api.ErrGraphMany) })
	l := row(3, 0, topNodes)
	l[topNodes-1] = l[0]
	inTime(t, func() { refused(t, 3, zero(), l, api.ErrGraphTwice) })
}

// A call that is made again and again: 2048 nodes that wait for one another, some millions of edges.
func TestP14_6Repeated(t *testing.T) {
	l := grid(7, topNodes, 1)
	for i := range l {
		l[i].Deps = filled(7, 292)
	}
	inTime(t, func() {
		for range 50 {
			if got, e := graph.Order(7, filled(7, 0), l); e != api.OK || len(got) != topNodes {
				t.Fatalf("Order has %d instances, %d", len(got), e)
			}
		}
	})
}

func rankOrder(a, b api.Node) int {
	if a.Seq != b.Seq {
		return a.Seq - b.Seq
	}
	if a.Inst.Row != b.Inst.Row {
		return a.Inst.Row - b.Inst.Row
	}
	return a.Inst.Num - b.Inst.Num
}

func insts(l []api.Node) []api.Inst { return joined(alone(l)) }
