package graph

// A walk goes from point to point along the edges of a view and finds its circles: points of which each leads to
// each other one. A point that leads back to none that leads to it is a circle alone.
type walk struct {
	v      *view
	met    []int // of each point: as which one it was met, from 1 on; 0: not yet
	early  []int // of each point: the earliest open one that it is known to lead to
	circle []int // of each point: the number of its circle; none: not known yet
	open   []int // the points that were met and whose circle is not known yet
	count  int   // of circles
	steps  int   // the points that were met
}

func newWalk(v *view) *walk {
	size := len(v.edges)
	w := &walk{v: v, met: make([]int, size), early: make([]int, size), circle: make([]int, size)}
	for p := range w.circle {
		w.circle[p] = none
	}
	return w
}

// all goes through all points.
func (w *walk) all() {
	for p := range w.met {
		if !w.isMet(p) {
			w.from(p)
		}
	}
}

// from goes through all that a point leads to and that has not been met yet.
func (w *walk) from(p int) {
	path := []int{w.meet(p)}
next:
	for len(path) > 0 {
		here := path[len(path)-1]
		for q := range w.v.n {
			if there := w.v.edges[here][q]; there != none && !w.isMet(there) {
				path = append(path, w.meet(there))
				continue next
			}
		}
		w.leave(here)
		path = path[:len(path)-1]
	}
}

func (w *walk) isMet(p int) bool { return w.met[p] > 0 }

func (w *walk) meet(p int) int {
	w.steps++
	w.met[p], w.early[p] = w.steps, w.steps
	w.open = append(w.open, p)
	return p
}

// leave looks at a point again when all that it leads to has been met. If it leads to no open point that was met
// earlier, it and the open ones behind it are a circle.
func (w *walk) leave(p int) {
	for q := range w.v.n {
		if there := w.v.edges[p][q]; there != none && w.circle[there] == none {
			w.early[p] = min(w.early[p], w.early[there])
		}
	}
	if w.early[p] < w.met[p] {
		return
	}
	for w.circle[p] == none {
		last := len(w.open) - 1
		w.circle[w.open[last]] = w.count
		w.open = w.open[:last]
	}
	w.count++
}
