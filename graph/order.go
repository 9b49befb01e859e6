package graph

import (
	"cmp"
	"container/heap"
	"slices"

	"moot/api"
)

// A circle is what becomes a group if it can run, or a stretch alone. A stretch is taken ahead of all groups that may
// be taken: what waits for nothing but for it waits for nothing.
type circle struct {
	group  []api.Inst // by rank; of a stretch none
	rank   int        // of the first instance among all waiting nodes, from 1 on; of a stretch 0
	waits  int        // how many edges lead from it to what is missing, or to circles that are not taken yet
	behind []int      // the circles from which an edge leads to it, once for each edge
}

// groups takes one circle after the other that waits for nothing. What waits for something missing is never taken,
// nor is what waits for that.
func (v *view) groups() [][]api.Inst {
	circles := v.circles()
	var ready queue
	for i, c := range circles {
		if c.waits == 0 {
			heap.Push(&ready, turn{c.rank, i})
		}
	}
	var out [][]api.Inst
	for len(ready) > 0 {
		taken := circles[heap.Pop(&ready).(turn).circle]
		if len(taken.group) > 0 {
			out = append(out, taken.group)
		}
		for _, i := range taken.behind {
			c := &circles[i]
			c.waits--
			if c.waits == 0 {
				heap.Push(&ready, turn{c.rank, i})
			}
		}
	}
	return out
}

// circles finds all circles, each with what it waits for.
func (v *view) circles() []circle {
	w := newWalk(v)
	w.all()
	out := make([]circle, w.count)
	ranked := slices.Clone(v.waiting)
	slices.SortFunc(ranked, byRank)
	for i, y := range ranked {
		c := &out[w.circle[v.place(y.Inst)]]
		if len(c.group) == 0 {
			c.rank = i + 1
		}
		c.group = append(c.group, y.Inst)
	}
	for p, here := range w.circle {
		for q := range v.n {
			if p < len(v.waiting) && v.misses(p, q) {
				out[here].waits++
			}
			if there := v.edges[p][q]; there != none && w.circle[there] != here {
				out[here].waits++
				out[w.circle[there]].behind = append(out[w.circle[there]].behind, here)
			}
		}
	}
	return out
}

func byRank(a, b api.Node) int {
	return cmp.Or(cmp.Compare(a.Seq, b.Seq), byInst(a, b))
}

// A turn is a circle that may be taken; a queue holds them, the lowest rank at its head.
type turn struct {
	rank, circle int
}

type queue []turn

func (l queue) Len() int { return len(l) }

func (l queue) Less(i, j int) bool { return l[i].rank < l[j].rank }

func (l queue) Swap(i, j int) { l[i], l[j] = l[j], l[i] }

func (l *queue) Push(x any) { *l = append(*l, x.(turn)) }

func (l *queue) Pop() any {
	end := len(*l) - 1
	last := (*l)[end]
	*l = (*l)[:end]
	return last
}
