package graph_test

import (
	"slices"
	"testing"

	"moot/api"
)

// A shape says how a thrown set of nodes is made: of one in so many it says that it is so.
type shape struct {
	count int // nodes at most
	jump  int // a number of a row is left out
	above int // an entry of Deps may be above all nodes of its row
	edges int // an entry of Deps is not zero
	ran   int
	seqs  int // Seq is below
}

func (d *dice) shape() shape {
	return shape{count: 1 + d.below(14), jump: 4 + d.below(40), above: 10 + d.below(90), edges: 1 + d.below(6), ran: 4 + d.below(8), seqs: 1 + d.below(12)}
}

// set throws low and nodes.
func (d *dice) set(n int, s shape) ([]int, []api.Node) {
	var low []int
	for range n {
		low = append(low, d.below(4))
	}
	return low, d.setFrom(low, s)
}

// setFrom throws nodes above low.
func (d *dice) setFrom(low []int, s shape) []api.Node {
	top := slices.Clone(low)
	var out []api.Node
	for range s.count {
		q := d.below(len(low))
		if d.below(s.jump) == 0 {
			top[q]++
		}
		top[q]++
		out = append(out, api.Node{Inst: in(q, top[q]), Seq: d.below(s.seqs), Ran: d.below(s.ran) == 0})
	}
	for i := range out {
		for _, k := range top {
			out[i].Deps = append(out[i].Deps, d.entry(k, s))
		}
	}
	return shuffled(d, out)
}

func (d *dice) entry(top int, s shape) int {
	if d.below(s.edges) > 0 {
		return 0
	}
	if d.below(s.above) > 0 {
		return d.below(top + 1)
	}
	return pick(d, []int{top + 1, top + 2, topNum - 1, topNum})
}

// Thrown sets, against the chapter said again.
func TestP14_2Thrown(t *testing.T) {
	d := dice(142)
	for range 6000 {
		n := pick(&d, sizes())
		low, l := d.set(n, d.shape())
		groupsAre(t, n, low, l, newModel(n, low, l).groups())
	}
}

func TestP14_4Thrown(t *testing.T) {
	d := dice(144)
	for range 2000 {
		n := pick(&d, sizes())
		low, l := d.set(n, d.shape())
		m := newModel(n, low, l)
		for q := range n {
			for k := 1; k <= m.top[q]+1; k++ {
				gapsAre(t, n, low, l, in(q, k), m.gaps(in(q, k))...)
			}
		}
	}
}

// Three nodes with all Deps of 0 to 2, each in a row of its own or two in one.
func TestP14_2Small(t *testing.T) {
	d, all := dice(14), vectors(3)
	places := [][]api.Inst{{in(0, 1), in(1, 1), in(2, 1)}, {in(0, 1), in(0, 2), in(1, 1)}, {in(1, 1), in(2, 1), in(2, 2)}}
	for i := range len(all) * len(all) * len(all) {
		at := places[(i+i/27+i/27/27)%3]
		l := nodes(api.Node{Inst: at[0], Deps: all[i%27]}, api.Node{Inst: at[1], Deps: all[i/27%27]}, api.Node{Inst: at[2], Deps: all[i/27/27]})
		for j := range l {
			l[j].Seq = d.below(3)
		}
		m := newModel(3, zero(), l)
		groupsAre(t, 3, zero(), l, m.groups())
		gapsAre(t, 3, zero(), l, at[0], m.gaps(at[0])...)
	}
}

// vectors are all of n entries 0 to 2.
func vectors(n int) [][]int {
	out := [][]int{nil}
	for range n {
		var longer [][]int
		for _, d := range out {
			for k := range 3 {
				longer = append(longer, append(d[:len(d):len(d)], k))
			}
		}
		out = longer
	}
	return out
}

// permutations calls use with the nodes in each order.
func permutations(l []api.Node, at int, use func([]api.Node)) {
	if at == len(l) {
		use(l)
		return
	}
	for i := at; i < len(l); i++ {
		l[at], l[i] = l[i], l[at]
		permutations(l, at+1, use)
		l[at], l[i] = l[i], l[at]
	}
}

// The order in which the nodes stand changes no answer.
func TestP14_5EveryOrder(t *testing.T) {
	d := dice(145)
	for range 60 {
		n := pick(&d, sizes())
		s := d.shape()
		s.count = 1 + d.below(5)
		low, l := d.set(n, s)
		m := newModel(n, low, l)
		groups, x := m.groups(), pick(&d, l).Inst
		gaps := m.gaps(x)
		permutations(l, 0, func(l []api.Node) {
			groupsAre(t, n, low, l, groups)
			gapsAre(t, n, low, l, x, gaps...)
		})
	}
}

func TestP14_5ManyOrders(t *testing.T) {
	d := dice(1451)
	for range 100 {
		n := pick(&d, sizes())
		s := d.shape()
		s.count = 20 + d.below(40)
		low, l := d.set(n, s)
		m := newModel(n, low, l)
		groups, x := m.groups(), pick(&d, l).Inst
		gaps := m.gaps(x)
		for range 10 {
			l = shuffled(&d, l)
			groupsAre(t, n, low, l, groups)
			gapsAre(t, n, low, l, x, gaps...)
		}
	}
}
