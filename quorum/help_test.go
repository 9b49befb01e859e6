package quorum_test

import (
	"math"
	"reflect"
	"slices"
	"testing"

	"moot/api"
	"moot/quorum"
)

// The limits in the document's numbers.
const (
	topNum = 1048576
	topSeq = 1073741824
)

// dice throws the same numbers every time.
type dice uint64

func (d *dice) below(n int) int {
	*d = *d*6364136223846793005 + 1442695040888963407
	return int(uint64(*d>>33) % uint64(n))
}

func pick[T any](d *dice, from []T) T { return from[d.below(len(from))] }

func (d *dice) shuffle(votes []api.Vote) {
	for i := range votes {
		j := i + d.below(len(votes)-i)
		votes[i], votes[j] = votes[j], votes[i]
	}
}

// wild are ints far from all that may be, some of them with low bits that may be.
func wild() []int {
	return []int{255, 256, 257, 259, 1<<20 + 1, 1 << 32, 1<<32 + 1, 1<<32 + 3, -255, -256, -1 << 32, 3 - 1<<32, math.MinInt, math.MinInt + 1, math.MinInt + 3, math.MaxInt}
}

func sizes() []int { return []int{3, 5, 7} }

func noSizes() []int { return append(wild(), -7, -5, -3, -1, 0, 1, 2, 4, 6, 8, 9, 11) }

// noReplicas are numbers of nobody among n.
func noReplicas(n int) []int { return append(wild(), -n, -2, -1, n, n+1, 2*n) }

func bal(round, who int) api.Ballot { return api.Ballot{Round: round, Who: who} }

func vec(d ...int) []int { return d }

// filled is n times x.
func filled(n, x int) []int { return slices.Repeat([]int{x}, n) }

// with is a copy of d with x at the place i.
func with(d []int, i, x int) []int {
	out := slices.Clone(d)
	out[i] = x
	return out
}

func at(seq int, deps ...int) api.Attr { return api.Attr{Seq: seq, Deps: deps} }

func reply(from int, a api.Attr) api.Vote { return api.Vote{From: from, Seq: a.Seq, Deps: a.Deps} }

// noAttrs are attributes that aren't sound for n, but that are close to own, which is.
func noAttrs(n int, own api.Attr) []api.Attr {
	var out []api.Attr
	for _, seq := range []int{-1, -2, -topSeq, topSeq + 1, topSeq + 2, 1 << 32, 1<<32 + 1, math.MinInt, math.MaxInt} {
		out = append(out, at(seq, own.Deps...))
	}
	long := append(slices.Clone(own.Deps), filled(20, 0)...)
	for _, size := range []int{0, 1, n - 1, n + 1, 7, 8, 20} {
		if size != n {
			out = append(out, at(own.Seq, long[:size]...))
		}
	}
	for i := range n {
		for _, x := range []int{-1, -topNum, topNum + 1, 1 << 32, 1<<32 + 1, math.MinInt, math.MaxInt} {
			out = append(out, at(own.Seq, with(own.Deps, i, x)...))
		}
	}
	return append(out, api.Attr{Seq: own.Seq}, api.Attr{})
}

// edges are sound attributes at the bounds.
func edges(n int) []api.Attr {
	out := []api.Attr{at(0, filled(n, 0)...), at(topSeq, filled(n, topNum)...), at(topSeq, filled(n, 0)...), at(0, filled(n, topNum)...)}
	for i := range n {
		out = append(out, at(1, with(filled(n, 0), i, topNum)...), at(topSeq-1, with(filled(n, topNum), i, 0)...))
	}
	return out
}

// others are the replicas but self, rising.
func others(n, self int) []int {
	var out []int
	for id := range n {
		if id != self {
			out = append(out, id)
		}
	}
	return out
}

// permutations hands every order of the list to a function.
func permutations[T any](list []T, k int, do func([]T)) {
	if k == len(list) {
		do(list)
		return
	}
	for i := k; i < len(list); i++ {
		list[k], list[i] = list[i], list[k]
		permutations(list, k+1, do)
		list[k], list[i] = list[i], list[k]
	}
}

// words hands every list of n numbers below k to a function.
func words(n, k int, do func([]int)) {
	word := make([]int, n)
	for {
		do(word)
		i := 0
		for i < n && word[i] == k-1 {
			word[i] = 0
			i++
		}
		if i == n {
			return
		}
		word[i]++
	}
}

func sameAttr(a, b api.Attr) bool { return a.Seq == b.Seq && slices.Equal(a.Deps, b.Deps) }

func samePlan(a, b api.Plan) bool {
	same := slices.Equal(a.Deps, b.Deps)
	a.Deps, b.Deps = nil, nil
	return same && reflect.DeepEqual(a, b)
}

func fastIs(t *testing.T, n, self int, own api.Attr, votes []api.Vote, kind int, want api.Attr) {
	t.Helper()
	if k, a := quorum.Fast(n, self, own, votes); k != kind || !sameAttr(a, want) {
		t.Fatalf("Fast(%d, %d, %v, %+v) = %d, %v, want %d, %v", n, self, own, votes, k, a, kind, want)
	}
}

func slowIs(t *testing.T, n, self int, own api.Attr, votes []api.Vote, kind int, want api.Attr) {
	t.Helper()
	if k, a := quorum.Slow(n, self, own, votes); k != kind || !sameAttr(a, want) {
		t.Fatalf("Slow(%d, %d, %v, %+v) = %d, %v, want %d, %v", n, self, own, votes, k, a, kind, want)
	}
}

// bothAre holds Fast and Slow against the same list of votes.
func bothAre(t *testing.T, n, self int, own api.Attr, votes []api.Vote, fast int, a api.Attr, slow int, b api.Attr) {
	t.Helper()
	fastIs(t, n, self, own, votes, fast, a)
	slowIs(t, n, self, own, votes, slow, b)
}

func planIs(t *testing.T, n, row int, votes []api.Vote, want api.Plan) {
	t.Helper()
	if p := quorum.Prepared(n, row, votes); !samePlan(p, want) {
		t.Fatalf("Prepared(%d, %d, %+v) = %+v, want %+v", n, row, votes, p, want)
	}
}
