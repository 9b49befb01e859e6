package graph_test

import (
	"slices"

	"moot/api"
)

// model is the chapter said again, edge by edge; for small numbers only.
type model struct {
	n     int
	low   []int
	nodes map[api.Inst]api.Node
	top   []int                         // of each row a number behind which nothing is there, nor has run
	paths map[api.Inst]map[api.Inst]int // to each instance that a node waits for
}

func newModel(n int, low []int, l []api.Node) *model {
	m := &model{n: n, low: low, nodes: map[api.Inst]api.Node{}, paths: map[api.Inst]map[api.Inst]int{}}
	for q := range n {
		m.top = append(m.top, low[q]+1)
	}
	for _, y := range l {
		m.nodes[y.Inst] = y
		m.top[y.Inst.Row] = max(m.top[y.Inst.Row], y.Inst.Num+1)
	}
	for x := range m.nodes {
		m.paths[x] = map[api.Inst]int{}
		m.follow(x, x)
	}
	return m
}

func (m *model) hasRun(x api.Inst) bool { return x.Num <= m.low[x.Row] || m.nodes[x].Ran }

func (m *model) isMissing(x api.Inst) bool {
	_, isNode := m.nodes[x]
	return !isNode && !m.hasRun(x)
}

// edges are those of x. Numbers above the top of a row are all missing: the least of them stands for them.
func (m *model) edges(x api.Inst) []api.Inst {
	if m.hasRun(x) || m.isMissing(x) {
		return nil
	}
	var out []api.Inst
	for q, k := range m.nodes[x].Deps {
		for i := 1; i <= min(k, m.top[q], topNum); i++ {
			if in(q, i) != x {
				out = append(out, in(q, i))
			}
		}
	}
	return out
}

func (m *model) follow(from, x api.Inst) {
	for _, y := range m.edges(x) {
		if m.paths[from][y] == 0 {
			m.paths[from][y] = 1
			m.follow(from, y)
		}
	}
}

func (m *model) waitsFor(y, z api.Inst) bool { return y != z && m.paths[y][z] == 1 }

func (m *model) canRun(y api.Inst) bool {
	if m.hasRun(y) || m.isMissing(y) {
		return false
	}
	for z := range m.paths[y] {
		if z != y && m.isMissing(z) {
			return false
		}
	}
	return true
}

func (m *model) isAhead(x, y api.Inst) bool {
	a, b := m.nodes[x], m.nodes[y]
	if a.Seq != b.Seq {
		return a.Seq < b.Seq
	}
	if x.Row != y.Row {
		return x.Row < y.Row
	}
	return x.Num < y.Num
}

// byRank are all that can run.
func (m *model) byRank() []api.Inst {
	var out []api.Inst
	for y := range m.nodes {
		if m.canRun(y) {
			at := 0
			for at < len(out) && m.isAhead(out[at], y) {
				at++
			}
			out = slices.Insert(out, at, y)
		}
	}
	return out
}

func (m *model) groups() [][]api.Inst {
	left := m.byRank()
	taken := map[api.Inst]int{}
	var out [][]api.Inst
	for len(left) > 0 {
		group := m.lowest(left, taken)
		for _, x := range group {
			taken[x] = 1
			left = slices.Delete(left, slices.Index(left, x), slices.Index(left, x)+1)
		}
		out = append(out, group)
	}
	return out
}

// lowest is the group that is taken next of those left, which stand by rank.
func (m *model) lowest(left []api.Inst, taken map[api.Inst]int) []api.Inst {
	for _, x := range left {
		group := m.groupOf(left, x)
		if m.isReady(group, taken) {
			return group
		}
	}
	return nil
}

func (m *model) groupOf(left []api.Inst, x api.Inst) []api.Inst {
	var out []api.Inst
	for _, y := range left {
		if x == y || m.waitsFor(x, y) && m.waitsFor(y, x) {
			out = append(out, y)
		}
	}
	return out
}

func (m *model) isReady(group []api.Inst, taken map[api.Inst]int) bool {
	for _, x := range group {
		for _, y := range m.edges(x) {
			if !slices.Contains(group, y) && !m.hasRun(y) && taken[y] == 0 {
				return false
			}
		}
	}
	return true
}

func (m *model) gaps(x api.Inst) []int {
	out := make([]int, m.n)
	if m.isMissing(x) {
		out[x.Row] = x.Num
		return out
	}
	if m.hasRun(x) {
		return out
	}
	for y := range m.paths[x] {
		if m.isMissing(y) && (out[y.Row] == 0 || y.Num < out[y.Row]) {
			out[y.Row] = y.Num
		}
	}
	return out
}

// firstFault is what is amiss with a list of nodes.
func firstFault(n int, low []int, l []api.Node) api.Errno {
	for i, y := range l {
		q, k := y.Inst.Row, y.Inst.Num
		if q < 0 || q >= n || k <= low[q] || k > topNum || y.Seq < 0 || y.Seq > topSeq || len(y.Deps) != n {
			return api.ErrGraphNode
		}
		if slices.Min(y.Deps) < 0 || slices.Max(y.Deps) > topNum {
			return api.ErrGraphNode
		}
		for _, z := range l[:i] {
			if z.Inst == y.Inst {
				return api.ErrGraphTwice
			}
		}
	}
	return api.OK
}
