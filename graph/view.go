package graph

import (
	"cmp"
	"slices"

	"moot/api"
)

// none stands where there is no point.
const none = -1

// A view is what one call makes of its arguments.
//
// Of a node's edges into a row there may be as many as the row has nodes, some millions in all. So they are not
// followed one by one: a stretch stands for the waiting nodes of a row from its first one up to a certain one, and
// leads to that one and to the stretch that ends at the one before it. Nodes and stretches are the points of the
// view, and none has more than n edges. A node that leads to a stretch that it is part of is in a circle with that
// stretch, and so with no node that it would not be in a circle with anyway.
type view struct {
	n       int
	gap     []int      // of each row the least number that is missing
	waiting []api.Node // the nodes that have not run, by row, then number

	// The points to which each point leads: first of the waiting nodes, for each row its stretch, then of the
	// stretches that end at each of them.
	edges [][api.MaxN]int
}

func newView(n int, low []int, nodes []api.Node) *view {
	v := &view{n: n}
	for q := range n {
		v.gap = append(v.gap, low[q]+1)
	}
	sorted := slices.Clone(nodes)
	slices.SortFunc(sorted, byInst)
	for _, y := range sorted {
		if y.Inst.Num == v.gap[y.Inst.Row] {
			v.gap[y.Inst.Row]++
		}
		if !y.Ran {
			v.waiting = append(v.waiting, y)
		}
	}
	v.link()
	return v
}

// link draws the edges.
func (v *view) link() {
	m := len(v.waiting)
	v.edges = make([][api.MaxN]int, 2*m)
	for i, y := range v.waiting {
		for q := range v.n {
			v.edges[i][q], v.edges[m+i][q] = none, none
			if last := v.last(q, y.Deps[q]); last != none {
				v.edges[i][q] = m + last
			}
		}
		v.edges[m+i][0] = i
		if last := v.last(y.Inst.Row, y.Inst.Num-1); last != none {
			v.edges[m+i][1] = m + last
		}
	}
}

// last finds the last waiting node of row q that is not above k.
func (v *view) last(q, k int) int {
	i := v.place(api.Inst{Row: q, Num: k + 1}) - 1
	if i < 0 || v.waiting[i].Inst.Row != q {
		return none
	}
	return i
}

// place finds where among the waiting nodes x stands, or would stand.
func (v *view) place(x api.Inst) int {
	i, _ := slices.BinarySearchFunc(v.waiting, api.Node{Inst: x}, byInst)
	return i
}

// misses tells whether a waiting node has an edge to something missing in row q.
func (v *view) misses(i, q int) bool { return v.waiting[i].Deps[q] >= v.gap[q] }

// gapsOf tells what is missing to x, one of the waiting nodes.
func (v *view) gapsOf(x api.Inst) []int {
	w := newWalk(v)
	w.from(v.place(x))
	out := make([]int, v.n)
	for i := range v.waiting {
		for q := range v.n {
			if w.isMet(i) && v.misses(i, q) {
				out[q] = v.gap[q]
			}
		}
	}
	return out
}

func byInst(a, b api.Node) int {
	return cmp.Or(cmp.Compare(a.Inst.Row, b.Inst.Row), cmp.Compare(a.Inst.Num, b.Inst.Num))
}
