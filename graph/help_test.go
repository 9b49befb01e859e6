package graph_test

import (
	"math"
	"slices"
	"strconv"
	"strings"
	"testing"

	"moot/api"
	"moot/graph"
)

// The limits in the document's numbers.
const (
	topNum   = 1048576
	topSeq   = 1073741824
	topNodes = 2048
)

// dice throws the same numbers every time.
type dice uint64

func (d *dice) below(n int) int {
	*d = *d*6364136223846793005 + 1442695040888963407
	return int(uint64(*d>>33) % uint64(n))
}

func pick[T any](d *dice, from []T) T { return from[d.below(len(from))] }

// shuffled is a copy in another order.
func shuffled[T any](d *dice, from []T) []T {
	out := slices.Clone(from)
	for i := range out {
		j := d.below(i + 1)
		out[i], out[j] = out[j], out[i]
	}
	return out
}

// wild are ints far from all that may be, some of them with low bits that may be.
func wild() []int {
	return []int{1 << 32, 1<<32 + 1, 1<<32 + 3, -255, -256, -1 << 32, 3 - 1<<32, math.MinInt, math.MinInt + 1, math.MinInt + 3, math.MaxInt}
}

func sizes() []int { return []int{3, 5, 7} }

func noSizes() []int { return append(wild(), -7, -5, -3, -1, 0, 1, 2, 4, 6, 8, 9, 11, 255, 256, 259) }

func in(row, num int) api.Inst { return api.Inst{Row: row, Num: num} }

func vec(d ...int) []int { return d }

// filled is n times x.
func filled(n, x int) []int { return slices.Repeat([]int{x}, n) }

// with is a copy of d with x at the place i.
func with(d []int, i, x int) []int {
	out := slices.Clone(d)
	out[i] = x
	return out
}

func node(row, num, seq int, deps ...int) api.Node {
	return api.Node{Inst: in(row, num), Seq: seq, Deps: deps}
}

func ran(y api.Node) api.Node {
	y.Ran = true
	return y
}

func nodes(l ...api.Node) []api.Node { return l }

// read makes nodes of the chapter's way to write them, such as "0.1 s3 [0 1 0], 1.1 s2 [1 0 0] Ran".
func read(t *testing.T, text string) []api.Node {
	t.Helper()
	var out []api.Node
	for part := range strings.SplitSeq(text, ", ") {
		if part == "none" {
			continue
		}
		head, rest, _ := strings.Cut(part, " s")
		seq, rest, _ := strings.Cut(rest, " [")
		deps, rest, _ := strings.Cut(rest, "]")
		y := api.Node{Inst: readInst(t, head), Seq: number(t, seq), Ran: rest == " Ran"}
		for k := range strings.SplitSeq(deps, " ") {
			y.Deps = append(y.Deps, number(t, k))
		}
		if rest != "" && !y.Ran {
			t.Fatalf("%q is no node", part)
		}
		out = append(out, y)
	}
	return out
}

func readInst(t *testing.T, text string) api.Inst {
	t.Helper()
	row, num, _ := strings.Cut(text, ".")
	return in(number(t, row), number(t, num))
}

// readGroups makes groups of the chapter's way to write them, such as "(2.1) (1.1 0.1)".
func readGroups(t *testing.T, text string) [][]api.Inst {
	t.Helper()
	var out [][]api.Inst
	for part := range strings.SplitSeq(strings.Trim(text, "()"), ") (") {
		if part == "none" {
			continue
		}
		var group []api.Inst
		for x := range strings.SplitSeq(part, " ") {
			group = append(group, readInst(t, x))
		}
		out = append(out, group)
	}
	return out
}

func number(t *testing.T, text string) int {
	t.Helper()
	k, err := strconv.Atoi(text)
	if err != nil {
		t.Fatal(err)
	}
	return k
}

// joined is all groups one behind the other.
func joined(groups [][]api.Inst) []api.Inst {
	var out []api.Inst
	for _, g := range groups {
		out = append(out, g...)
	}
	return out
}

// groupsAre asks Groups and Order.
func groupsAre(t *testing.T, n int, low []int, l []api.Node, want [][]api.Inst) {
	t.Helper()
	if got, e := graph.Groups(n, low, l); e != api.OK || !slices.EqualFunc(got, want, slices.Equal) {
		t.Fatalf("Groups(%d, %v, %.900v) = %v, %d, want %v", n, low, l, got, e, want)
	}
	if got, e := graph.Order(n, low, l); e != api.OK || !slices.Equal(got, joined(want)) {
		t.Fatalf("Order(%d, %v, %.900v) = %v, %d, want %v", n, low, l, got, e, joined(want))
	}
}

func gapsAre(t *testing.T, n int, low []int, l []api.Node, x api.Inst, want ...int) {
	t.Helper()
	if got, e := graph.Gaps(n, low, l, x); e != api.OK || !slices.Equal(got, want) {
		t.Fatalf("Gaps(%d, %v, %.900v, %v) = %v, %d, want %v", n, low, l, x, got, e, want)
	}
}

// refused asks all three for an error, and for nothing beside it.
func refused(t *testing.T, n int, low []int, l []api.Node, want api.Errno) {
	t.Helper()
	groupsRefused(t, n, low, l, want)
	gapsRefused(t, n, low, l, in(0, 1), want)
}

// groupsRefused asks Groups and Order for an error.
func groupsRefused(t *testing.T, n int, low []int, l []api.Node, want api.Errno) {
	t.Helper()
	if got, e := graph.Groups(n, low, l); e != want || want != api.OK && got != nil {
		t.Fatalf("Groups(%d, %v, %.400v) = %v, %d, want %d", n, low, l, got, e, want)
	}
	if got, e := graph.Order(n, low, l); e != want || want != api.OK && got != nil {
		t.Fatalf("Order(%d, %v, %.400v) = %v, %d, want %d", n, low, l, got, e, want)
	}
}

func gapsRefused(t *testing.T, n int, low []int, l []api.Node, x api.Inst, want api.Errno) {
	t.Helper()
	if got, e := graph.Gaps(n, low, l, x); e != want || want != api.OK && got != nil {
		t.Fatalf("Gaps(%d, %v, %.400v, %v) = %v, %d, want %d", n, low, l, x, got, e, want)
	}
}
