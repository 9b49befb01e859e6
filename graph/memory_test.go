package graph_test

import (
	"reflect"
	"slices"
	"testing"

	"moot/api"
	"moot/graph"
)

// spoil writes x over a list and its spare room.
func spoil[T any](list []T, x T) {
	list = list[:cap(list)]
	for i := range list {
		list[i] = x
	}
}

// room is a copy of a list with spare room around it, and the whole that it is cut out of.
func room[T any](list []T, mark T) (cut, whole []T) {
	whole = append([]T{mark}, list...)
	for range 20 {
		whole = append(whole, mark)
	}
	return whole[1 : 1+len(list)], whole
}

// given is all that one call is handed, with spare room around every list.
type given struct {
	n       int
	low     []int
	nodes   []api.Node
	whole   []api.Node // around nodes
	vectors [][]int    // around low, and around each node's Deps
}

func give(n int, low []int, l []api.Node) given {
	cut, whole := room(low, 2)
	g := given{n: n, low: cut, vectors: [][]int{whole}}
	var inner []api.Node
	for _, y := range l {
		y.Deps, whole = room(y.Deps, 1)
		inner, g.vectors = append(inner, y), append(g.vectors, whole)
	}
	g.nodes, g.whole = room(inner, node(1, 99, 1, filled(n, 0)...))
	return g
}

// copied is how it stands now.
func (g given) copied() ([]api.Node, [][]int) {
	l := slices.Clone(g.whole)
	for i := range l {
		l[i].Deps = slices.Clone(l[i].Deps)
	}
	var vectors [][]int
	for _, v := range g.vectors {
		vectors = append(vectors, slices.Clone(v))
	}
	return l, vectors
}

// spoilt writes over all of it.
func (g given) spoilt() {
	for _, v := range g.vectors {
		spoil(v, 5)
	}
	spoil(g.whole, node(2, 5, 0, 1, 1, 1))
}

// answers are what all three calls give.
type answers struct {
	Groups [][]api.Inst
	Order  []api.Inst
	Gaps   []int
	Faults [3]api.Errno
}

func (g given) ask(x api.Inst) answers {
	var out answers
	out.Groups, out.Faults[0] = graph.Groups(g.n, g.low, g.nodes)
	out.Order, out.Faults[1] = graph.Order(g.n, g.low, g.nodes)
	out.Gaps, out.Faults[2] = graph.Gaps(g.n, g.low, g.nodes, x)
	return out
}

// lists are all lists of instances that were answered.
func (a answers) lists() [][]api.Inst { return append(slices.Clone(a.Groups), a.Order) }

func (a answers) spoilt(mark int) {
	for i, l := range a.lists() {
		spoil(l, in(mark, i))
	}
	spoil(a.Gaps, mark)
	spoil(a.Groups, []api.Inst{in(mark, mark)})
}

// copied is another one with the same in it.
func (a answers) copied() answers {
	out := answers{Order: slices.Clone(a.Order), Gaps: slices.Clone(a.Gaps), Faults: a.Faults}
	for _, g := range a.Groups {
		out.Groups = append(out.Groups, slices.Clone(g))
	}
	return out
}

// cases throws what a call may be handed: mostly what may be, sometimes with something amiss.
func cases(use func(d *dice, n int, low []int, l []api.Node, x api.Inst)) {
	d := dice(1450)
	for range 800 {
		n := pick(&d, sizes())
		low, l := d.set(n, d.shape())
		x := pick(&d, l).Inst
		switch d.below(12) {
		case 0:
			l = append(l, pick(&d, l))
		case 1:
			l[d.below(len(l))].Deps = filled(n+1, 0)
		case 2:
			low[d.below(n)] = -1
		case 3:
			x = in(d.below(n), 1+d.below(9))
		}
		use(&d, n, low, l, x)
	}
}

// What is handed in is left as it was, spare room too, and not read behind its end.
func TestP14_5HandedIn(t *testing.T) {
	cases(func(_ *dice, n int, low []int, l []api.Node, x api.Inst) {
		g := give(n, low, l)
		wasNodes, wasVectors := g.copied()
		got := g.ask(x)
		isNodes, isVectors := g.copied()
		if !reflect.DeepEqual(isNodes, wasNodes) || !reflect.DeepEqual(isVectors, wasVectors) {
			t.Fatalf("n %d: %v became %v, %v became %v", n, wasNodes, isNodes, wasVectors, isVectors)
		}
		tight := given{n: n, low: slices.Clip(slices.Clone(low)), nodes: slices.Clip(slices.Clone(l))}
		if want := tight.ask(x); !reflect.DeepEqual(got, want) {
			t.Fatalf("with spare room %v, without %v", got, want)
		}
	})
}

// What is handed in and written over behind the call shows in no answer.
func TestP14_5NotKept(t *testing.T) {
	cases(func(_ *dice, n int, low []int, l []api.Node, x api.Inst) {
		g := give(n, low, l)
		got := g.ask(x)
		want := got.copied()
		g.spoilt()
		if !reflect.DeepEqual(got, want) {
			t.Fatalf("it became %v, it was %v", got, want)
		}
		if again := give(n, low, l).ask(x); !reflect.DeepEqual(again, want) {
			t.Fatalf("the next call answers %v, the first answered %v", again, want)
		}
	})
}

// Each list that is handed out is memory of its own.
func TestP14_5HandedOut(t *testing.T) {
	cases(func(_ *dice, n int, low []int, l []api.Node, x api.Inst) {
		g := give(n, low, l)
		wasNodes, wasVectors := g.copied()
		first := g.ask(x)
		want := first.copied()
		second := g.ask(x)
		first.spoilt(-7)
		if !reflect.DeepEqual(second, want) {
			t.Fatalf("the second answers became %v, they were %v", second, want)
		}
		isNodes, isVectors := g.copied()
		if !reflect.DeepEqual(isNodes, wasNodes) || !reflect.DeepEqual(isVectors, wasVectors) {
			t.Fatalf("n %d: %v became %v, %v became %v", n, wasNodes, isNodes, wasVectors, isVectors)
		}
		if third := g.ask(x); !reflect.DeepEqual(third, want) {
			t.Fatalf("the third answers are %v, the first were %v", third, want)
		}
	})
}

// No two groups share memory, nor does the order share any with them: each keeps a mark of its own.
func TestP14_5GroupsApart(t *testing.T) {
	cases(func(_ *dice, n int, low []int, l []api.Node, x api.Inst) {
		lists := give(n, low, l).ask(x).lists()
		for i, list := range lists {
			spoil(list, in(-1, i))
		}
		for i, list := range lists {
			for _, y := range list[:cap(list)] {
				if y != in(-1, i) {
					t.Fatalf("list %d shares memory with another", i)
				}
			}
		}
	})
}

// Behind an append to a group the others are as they were.
func TestP14_5Appended(t *testing.T) {
	cases(func(_ *dice, n int, low []int, l []api.Node, x api.Inst) {
		got := give(n, low, l).ask(x)
		want := got.copied()
		for _, list := range got.lists() {
			_ = append(list, in(-3, -3))
		}
		_ = append(got.Groups, nil)
		_ = append(got.Gaps, -3)
		if !reflect.DeepEqual(got, want) {
			t.Fatalf("it became %v, it was %v", got, want)
		}
	})
}

// nil and the empty list are the same.
func TestP14_5Empty(t *testing.T) {
	for _, d := range [][]int{nil, {}} {
		refused(t, 3, d, nil, api.ErrArg)
		refused(t, 3, zero(), nodes(node(0, 1, 1, d...)), api.ErrGraphNode)
	}
	for _, l := range [][]api.Node{nil, {}} {
		groupsAre(t, 3, zero(), l, nil)
		gapsAre(t, 3, zero(), l, in(0, 1), 1, 0, 0)
	}
}

// Spare room behind a list is none of it.
func TestP14_5SpareRoom(t *testing.T) {
	long := make([]int, 9)
	refused(t, 3, long[:2], nil, api.ErrArg)
	refused(t, 3, zero(), nodes(node(0, 1, 1, long[:2]...)), api.ErrGraphNode)
	l := row(3, 0, 2)
	groupsAre(t, 3, zero(), l[:1], [][]api.Inst{{in(0, 1)}})
	gapsAre(t, 3, zero(), l[:1], in(0, 2), 2, 0, 0)
}

// Two calls never see one another.
func TestP14_5Apart(t *testing.T) {
	d := dice(1455)
	for range 200 {
		n, n2 := pick(&d, sizes()), pick(&d, sizes())
		low, l := d.set(n, d.shape())
		low2, l2 := d.set(n2, d.shape())
		want := give(n, low, l).ask(in(0, 1))
		give(n2, low2, l2).ask(in(1, 1))
		if got := give(n, low, l).ask(in(0, 1)); !reflect.DeepEqual(got, want) {
			t.Fatalf("it answers %v, and answered %v", got, want)
		}
	}
}
