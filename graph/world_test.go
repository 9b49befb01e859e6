package graph_test

import (
	"slices"
	"testing"

	"moot/api"
	"moot/graph"
)

// A runner runs what can run of what it knows, and remembers the order.
type runner struct {
	t     *testing.T
	d     *dice
	n     int
	known []api.Node
	low   []int
	order []api.Inst
	ranAt map[api.Inst]int // its place in order, from 1 on
}

func newRunner(t *testing.T, d *dice, n int) *runner {
	return &runner{t: t, d: d, n: n, low: filled(n, 0), ranAt: map[api.Inst]int{}}
}

// run runs Order of what is known, as it stands.
func (r *runner) run() {
	r.t.Helper()
	got, e := graph.Order(r.n, r.low, r.nodes())
	if e != api.OK {
		r.t.Fatalf("Order(%d, %v, %v) is %d", r.n, r.low, r.nodes(), e)
	}
	for _, x := range got {
		if r.ranAt[x] > 0 {
			r.t.Fatalf("%v runs twice, in %v and %v", x, r.order, got)
		}
		r.order = append(r.order, x)
		r.ranAt[x] = len(r.order)
	}
	for q := range r.n {
		r.raise(q)
	}
	if got, e := graph.Order(r.n, r.low, r.nodes()); e != api.OK || len(got) > 0 {
		r.t.Fatalf("Order(%d, %v, %v) = %v, %d: all of it had to run ahead", r.n, r.low, r.nodes(), got, e)
	}
}

// nodes are those above low, those that have run as Ran nodes.
func (r *runner) nodes() []api.Node {
	var out []api.Node
	for _, y := range r.known {
		if y.Inst.Num > r.low[y.Inst.Row] {
			y.Ran = r.ranAt[y.Inst] > 0
			out = append(out, y)
		}
	}
	return shuffled(r.d, out)
}

// raise raises low by what has run, sometimes not as far as it may go: the rest are Ran nodes.
func (r *runner) raise(q int) {
	for r.ranAt[in(q, r.low[q]+1)] > 0 && r.d.below(5) > 0 {
		r.low[q]++
	}
}

// live lets nodes become known one by one, and runs in between, one time in often.
func (r *runner) live(all []api.Node, often int) {
	r.t.Helper()
	for _, y := range shuffled(r.d, all) {
		r.known = append(r.known, y)
		if r.d.below(often) == 0 {
			r.run()
		}
	}
	r.run()
}

// whole throws a set of nodes of which none has run.
func (d *dice) whole(n, count int) []api.Node {
	s := d.shape()
	s.count, s.ran = count, topNum
	s.jump = pick(d, []int{5, 20, topNum, topNum})
	s.above = pick(d, []int{10, 200, topNum, topNum})
	s.edges = 1 + d.below(3*n)
	return d.setFrom(filled(n, 0), s)
}

// However it goes, of two of which one waits for the other the order is the same; each runs once, and in the end all
// that can run have run.
func TestP14_8OneOrder(t *testing.T) {
	d := dice(148)
	for range 300 {
		n := pick(&d, sizes())
		all := d.whole(n, 1+d.below(20))
		m := newModel(n, filled(n, 0), all)
		first := newRunner(t, &d, n)
		first.live(all, 1+d.below(6))
		for range 4 {
			other := newRunner(t, &d, n)
			other.live(all, 1+d.below(6))
			runAlike(t, m, first, other)
		}
	}
}

// runAlike asks two runners that have come to know all of m whether they ran alike.
func runAlike(t *testing.T, m *model, a, b *runner) {
	t.Helper()
	for _, r := range []*runner{a, b} {
		if got := slices.SortedFunc(slices.Values(r.order), instOrder); !slices.Equal(got, slices.SortedFunc(slices.Values(m.byRank()), instOrder)) {
			t.Fatalf("%v: it ran %v, all that can run are %v", m.nodes, r.order, m.byRank())
		}
	}
	for _, x := range a.order {
		for _, y := range a.order {
			if m.waitsFor(x, y) && (a.ranAt[x] < a.ranAt[y]) != (b.ranAt[x] < b.ranAt[y]) {
				t.Fatalf("%v: %v waits for %v; they ran as %v and as %v", m.nodes, x, y, a.order, b.order)
			}
		}
	}
}

func instOrder(x, y api.Inst) int { return rankOrder(api.Node{Inst: x}, api.Node{Inst: y}) }

// Larger sets, against one that runs all at once.
func TestP14_8Larger(t *testing.T) {
	d := dice(1480)
	for range 15 {
		n := pick(&d, sizes())
		all := d.whole(n, 40+d.below(60))
		m := newModel(n, filled(n, 0), all)
		first := newRunner(t, &d, n)
		first.known = all
		first.run()
		for range 3 {
			other := newRunner(t, &d, n)
			other.live(all, 1+d.below(30))
			runAlike(t, m, first, other)
		}
	}
}

// Each way in which four nodes become known and run, written.
func TestP14_8Written(t *testing.T) {
	for _, text := range []string{
		"0.1 s2 [0 1 0], 1.1 s1 [1 0 0], 2.1 s3 [1 0 0], 2.2 s0 [0 0 1]",
		"0.1 s1 [0 1 0], 1.1 s2 [0 0 1], 2.1 s3 [1 0 0], 0.2 s4 [1 1 1]",
		"0.1 s5 [0 0 0], 0.2 s1 [1 0 0], 0.3 s3 [2 0 0], 0.4 s2 [3 0 0]",
		"0.1 s2 [2 0 0], 0.2 s1 [1 0 0], 1.1 s4 [2 2 0], 1.2 s3 [2 1 0]",
		"0.1 s1 [0 0 0], 1.1 s1 [0 0 0], 2.1 s1 [0 0 0], 2.2 s1 [0 0 0]",
		"0.1 s1 [0 1 0], 1.1 s2 [1 0 2], 2.1 s0 [1 0 0], 2.3 s9 [0 0 2]",
	} {
		l := read(t, text)
		m := newModel(3, zero(), l)
		first := newRunner(t, new(dice), 3)
		first.known = slices.Clone(l)
		first.run()
		permutations(l, 0, func(l []api.Node) {
			for runs := range 8 {
				other := newRunner(t, new(dice), 3)
				for i, y := range l {
					other.known = append(other.known, y)
					if runs>>i&1 == 1 {
						other.run()
					}
				}
				other.run()
				runAlike(t, m, first, other)
			}
		})
	}
}

// Each stands behind all that it waits for, but those of its own group; and of two of which only one waits for the
// other, that one is behind.
func TestP14_7Behind(t *testing.T) {
	d := dice(147)
	for range 1500 {
		n := pick(&d, sizes())
		low, l := d.set(n, d.shape())
		m := newModel(n, low, l)
		order, e := graph.Order(n, low, l)
		if e != api.OK {
			t.Fatalf("Order(%d, %v, %v) is %d", n, low, l, e)
		}
		place := map[api.Inst]int{}
		for i, x := range order {
			place[x] = i + 1
		}
		for _, y := range order {
			standsBehind(t, m, place, y)
		}
	}
}

func standsBehind(t *testing.T, m *model, place map[api.Inst]int, y api.Inst) {
	t.Helper()
	for z := range m.paths[y] {
		if z != y && !m.hasRun(z) && !m.waitsFor(z, y) && (place[z] == 0 || place[z] > place[y]) {
			t.Fatalf("%v: %v waits for %v, and runs as number %d, that one as number %d", m.nodes, y, z, place[y], place[z])
		}
	}
}

// An order that no rank gives: by what each waits for alone.
func TestP14_7AgainstRank(t *testing.T) {
	for _, n := range sizes() {
		for q := range n {
			for r := range n {
				if q != r {
					y, z := free(n, q, 1), free(n, r, 1)
					y.Seq, z.Seq = 0, topSeq
					y.Deps[r] = 1
					groupsAre(t, n, filled(n, 0), nodes(y, z), [][]api.Inst{{z.Inst}, {y.Inst}})
				}
			}
		}
	}
}
