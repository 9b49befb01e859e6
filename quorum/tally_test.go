package quorum_test

import (
	"errors"
	"math"
	"slices"
	"testing"

	"moot/api"
	"moot/quorum"
)

// tally is a new tally of texts, which must be there.
func tally(t *testing.T, n, self int) *quorum.Tally[string] {
	t.Helper()
	y := quorum.NewTally[string](n, self)
	if y == nil {
		t.Fatalf("NewTally(%d, %d) is nil", n, self)
	}
	return y
}

func adds(t *testing.T, y *quorum.Tally[string], from int, v string, want bool) {
	t.Helper()
	if ok := y.Add(from, v); ok != want {
		t.Fatalf("Add(%d, %q) = %v", from, v, ok)
	}
}

// holds asks for just these answers, in every look.
func holds(t *testing.T, y *quorum.Tally[string], want map[int]string) {
	t.Helper()
	var ids []int
	for id := range want {
		ids = append(ids, id)
	}
	slices.Sort(ids)
	if got := y.From(); !slices.Equal(got, ids) {
		t.Fatalf("From() = %v, want %v", got, ids)
	}
	if got := y.Count(); got != len(want) {
		t.Fatalf("Count() = %d, want %d", got, len(want))
	}
	for _, id := range append(wild(), -2, -1, 0, 1, 2, 3, 4, 5, 6, 7, 8) {
		there, ok := want[id]
		if v, is := y.Get(id); v != there || is != ok {
			t.Fatalf("Get(%d) = %q, %v, want %q, %v", id, v, is, there, ok)
		}
	}
}

func TestP12_1Sizes(t *testing.T) {
	for _, n := range noSizes() {
		for _, self := range []int{-1, 0, 1, n - 1, n, n / 2, math.MinInt, math.MaxInt} {
			if quorum.NewTally[string](n, self) != nil {
				t.Errorf("NewTally(%d, %d) is a tally", n, self)
			}
		}
	}
}

func TestP12_1Selves(t *testing.T) {
	for _, n := range sizes() {
		for _, self := range noReplicas(n) {
			if quorum.NewTally[string](n, self) != nil {
				t.Errorf("NewTally(%d, %d) is a tally", n, self)
			}
		}
		for self := range n {
			y := tally(t, n, self)
			holds(t, y, nil)
			// It is self's, and of n replicas.
			adds(t, y, self, "self", false)
			adds(t, y, n, "out", false)
			for _, id := range others(n, self) {
				adds(t, y, id, "other", true)
			}
		}
	}
}

func TestP12_2NotAdded(t *testing.T) {
	for _, n := range sizes() {
		for self := range n {
			y, want := tally(t, n, self), map[int]string{}
			refused := func() {
				for _, from := range append(noReplicas(n), self) {
					adds(t, y, from, "no", false)
				}
				for from := range want {
					adds(t, y, from, "again", false)
					adds(t, y, from, want[from], false)
					adds(t, y, from, "", false)
				}
				holds(t, y, want)
			}
			refused()
			for _, from := range others(n, self) {
				adds(t, y, from, string(rune('a'+from)), true)
				want[from] = string(rune('a' + from))
				refused()
			}
		}
	}
}

// An answer that is T's zero value counts as any other does.
func TestP12_2ZeroCounts(t *testing.T) {
	y := tally(t, 3, 1)
	adds(t, y, 0, "", true)
	holds(t, y, map[int]string{0: ""})
	adds(t, y, 0, "later", false)
	holds(t, y, map[int]string{0: ""})
	z := quorum.NewTally[*int](5, 0)
	if !z.Add(4, nil) || z.Add(4, new(int)) || z.Count() != 1 {
		t.Errorf("a nil pointer was not kept as 4's")
	}
	if v, ok := z.Get(4); v != nil || !ok {
		t.Errorf("Get(4) = %v, %v", v, ok)
	}
}

// What v points to is the caller's business.
func TestP12_2KeptAsAssigned(t *testing.T) {
	list, number := []int{1, 2}, 3
	y, z := quorum.NewTally[[]int](3, 0), quorum.NewTally[*int](3, 0)
	y.Add(1, list)
	z.Add(1, &number)
	list[1], number = 9, 8
	if v, _ := y.Get(1); !slices.Equal(v, []int{1, 9}) {
		t.Errorf("Get(1) = %v", v)
	}
	if v, _ := z.Get(1); v != &number || *v != 8 {
		t.Errorf("Get(1) = %v", v)
	}
	grid := quorum.NewTally[[2]int](3, 0)
	pair := [2]int{1, 2}
	grid.Add(2, pair)
	pair[0] = 7
	if v, ok := grid.Get(2); v != [2]int{1, 2} || !ok {
		t.Errorf("Get(2) = %v, %v", v, ok)
	}
}

// In whatever order the answers come, From is rising.
func TestP12_3EveryOrder(t *testing.T) {
	for _, n := range sizes() {
		for _, self := range []int{0, n / 2, n - 1} {
			permutations(others(n, self), 0, func(ids []int) {
				y, want := tally(t, n, self), map[int]string{}
				for _, id := range ids {
					adds(t, y, id, string(rune('a'+id)), true)
					want[id] = string(rune('a' + id))
					if got := y.From(); !slices.IsSorted(got) || len(got) != len(want) || y.Count() != len(want) {
						t.Fatalf("after %v: From() = %v, Count() = %d", ids, got, y.Count())
					}
				}
				holds(t, y, want)
			})
		}
	}
}

func TestP12_3EveryWalk(t *testing.T) {
	d := dice(123)
	for range 200 {
		n := pick(&d, sizes())
		self := d.below(n)
		y, want := tally(t, n, self), map[int]string{}
		for range 12 {
			from, v := d.below(n+4)-2, string(rune('a'+d.below(26)))
			_, held := want[from]
			may := from >= 0 && from < n && from != self && !held
			adds(t, y, from, v, may)
			if may {
				want[from] = v
			}
			holds(t, y, want)
		}
	}
}

// The lists of From are new memory: written over and appended to, they change no other.
func TestP12_3FromIsNewMemory(t *testing.T) {
	for _, n := range sizes() {
		y, want := tally(t, n, 1), map[int]string{}
		for _, id := range others(n, 1) {
			y.Add(id, "v")
			want[id] = "v"
			lists := [][]int{y.From(), y.From(), y.From()}
			apart(t, lists)
			for _, l := range lists {
				_ = append(l, -9)
			}
			holds(t, y, want)
		}
		first := y.From()
		spoil(y.From(), -5)
		if !slices.Equal(first, others(n, 1)) {
			t.Errorf("a list that was handed out became %v", first)
		}
	}
	none := tally(t, 3, 0)
	spoil(none.From(), -5)
	_ = append(none.From(), 1)
	holds(t, none, nil)
	none.Add(2, "late")
	holds(t, none, map[int]string{2: "late"})
}

// A list of From is of its time.
func TestP12_3FromStays(t *testing.T) {
	y := tally(t, 5, 0)
	y.Add(3, "c")
	was := y.From()
	y.Add(1, "a")
	y.Add(4, "d")
	if !slices.Equal(was, []int{3}) {
		t.Errorf("From became %v", was)
	}
}

// keeps walks a tally of any type through its calls.
func keeps[T any](t *testing.T, a, b T, same func(x, y T) bool) {
	t.Helper()
	var zero T
	y := quorum.NewTally[T](5, 2)
	if !y.Add(4, a) || !y.Add(0, b) || y.Add(4, b) || y.Add(2, a) || y.Add(5, a) || y.Add(-1, a) {
		t.Fatalf("Add of %T went wrong", a)
	}
	if y.Count() != 2 || !slices.Equal(y.From(), []int{0, 4}) {
		t.Fatalf("%T: From() = %v, Count() = %d", a, y.From(), y.Count())
	}
	for id, want := range map[int]T{4: a, 0: b, 1: zero, 2: zero, 3: zero, 5: zero, -1: zero} {
		if v, ok := y.Get(id); ok != (id == 4 || id == 0) || !same(v, want) {
			t.Fatalf("%T: Get(%d) = %v, %v, want %v", a, id, v, ok, want)
		}
	}
}

func equals[T comparable](x, y T) bool { return x == y }

func TestP12_3EveryType(t *testing.T) {
	keeps(t, 7, -7, equals)
	keeps(t, "a", "", equals)
	keeps(t, true, false, equals)
	keeps(t, 1.5, math.Inf(-1), equals)
	keeps(t, [3]int{1, 2, 3}, [3]int{}, equals)
	keeps(t, bal(1, 2), bal(0, 0), equals)
	keeps(t, struct{}{}, struct{}{}, equals)
	keeps(t, new(int), new(int), equals)
	keeps(t, error(api0{}), errors.New("b"), equals)
	keeps(t, any("a"), any(7), equals)
	keeps(t, make(chan int), make(chan int), equals)
	keeps(t, []int{1, 2}, []int{3}, slices.Equal)
	keeps(t, reply(1, at(2, 0, 1, 0)), reply(2, at(3, 0, 0, 0)), func(x, y api.Vote) bool {
		return x.From == y.From && sameAttr(attrOf(x), attrOf(y))
	})
	keeps(t, func() int { return 1 }, func() int { return 2 }, func(x, y func() int) bool {
		return (x == nil) == (y == nil) && (x == nil || x() == y())
	})
	keeps(t, map[string]int{"a": 1}, map[string]int{}, func(x, y map[string]int) bool { return x["a"] == y["a"] && (x == nil) == (y == nil) })
	keeps(t, quorum.NewTally[int](3, 0), quorum.NewTally[int](5, 0), equals)
}

// api0 is an error of no number.
type api0 struct{}

func (api0) Error() string { return "" }

// Tallies of one type and of several don't see one another.
func TestP12_3SideBySide(t *testing.T) {
	a, b, c := tally(t, 3, 0), tally(t, 3, 0), quorum.NewTally[int](7, 5)
	adds(t, a, 1, "a", true)
	holds(t, b, nil)
	adds(t, b, 1, "b", true)
	adds(t, b, 2, "bb", true)
	if !c.Add(1, 11) || !c.Add(6, 66) || c.Add(5, 55) {
		t.Error("the third one's Add went wrong")
	}
	holds(t, a, map[int]string{1: "a"})
	holds(t, b, map[int]string{1: "b", 2: "bb"})
	if v, ok := c.Get(1); v != 11 || !ok || c.Count() != 2 || !slices.Equal(c.From(), []int{1, 6}) {
		t.Errorf("the third one: Get(1) = %d, %v, From() = %v", v, ok, c.From())
	}
}
