package vector_test

import (
	"math"
	"slices"
	"testing"

	"moot/api"
	"moot/vector"
)

func checkUnion(t *testing.T, ds [][]int, want []int, fault api.Errno) {
	t.Helper()
	if got, e := vector.Union(ds...); !slices.Equal(got, want) || e != fault {
		t.Errorf("Union(%v) = %v, %d, want %v, %d", ds, got, e, want, fault)
	}
}

func TestP3_1Union(t *testing.T) {
	for _, c := range []struct {
		ds   [][]int
		want []int
	}{
		{[][]int{{1, 5, 0}, {3, 2, 0}}, []int{3, 5, 0}},
		{[][]int{{3, 2, 0}, {1, 5, 0}}, []int{3, 5, 0}},
		{[][]int{{0}, {0}}, []int{0}},
		{[][]int{{0}, {top}, {1}}, []int{top}},
		{[][]int{{1, 0, 0}, {0, 2, 0}, {0, 0, 3}, {0, 1, 1}}, []int{1, 2, 3}},
		{[][]int{{0, 1, 2, 3, 4, 5, 6}, {6, 5, 4, 3, 2, 1, 0}}, []int{6, 5, 4, 3, 4, 5, 6}},
		{[][]int{filled(7, top), filled(7, 0)}, filled(7, top)},
	} {
		checkUnion(t, c.ds, c.want, api.OK)
	}
}

func TestP3_1UnionOfOne(t *testing.T) {
	d := dice(1)
	for n := 1; n <= api.MaxN; n++ {
		for _, one := range [][]int{filled(n, 0), filled(n, top), d.vector(n), d.vector(n)} {
			checkUnion(t, [][]int{one}, one, api.OK)
			checkUnion(t, [][]int{one, one}, one, api.OK)
		}
	}
}

// Each of many lists is the greatest at some place, wherever it stands among them.
func TestP3_1UnionOfMany(t *testing.T) {
	d := dice(2)
	for n := 1; n <= api.MaxN; n++ {
		for _, count := range []int{2, 3, 8, 100} {
			var ds [][]int
			want := make([]int, n)
			for range count {
				one := d.vector(n)
				ds = append(ds, one)
				for i := range n {
					if one[i] > want[i] {
						want[i] = one[i]
					}
				}
			}
			checkUnion(t, ds, want, api.OK)
			for i := range ds {
				lonely := slices.Repeat([][]int{filled(n, 0)}, count)
				lonely[i] = ds[i]
				checkUnion(t, lonely, ds[i], api.OK)
			}
		}
	}
}

func TestP3_1UnionOfNothing(t *testing.T) {
	checkUnion(t, nil, nil, api.ErrWidth)
	checkUnion(t, [][]int{}, nil, api.ErrWidth)
}

func TestP3_1UnionWidths(t *testing.T) {
	for _, n := range noWidths() {
		for _, x := range []int{0, 1, -1, top + 1} {
			list := filled(n, x)
			checkUnion(t, [][]int{list}, nil, api.ErrWidth)
			checkUnion(t, [][]int{list, list}, nil, api.ErrWidth)
			checkUnion(t, [][]int{list, {1}}, nil, api.ErrWidth)
			checkUnion(t, [][]int{{1}, list}, nil, api.ErrWidth)
			checkUnion(t, [][]int{{1}, {1}, {1}, list}, nil, api.ErrWidth)
		}
	}
	checkUnion(t, [][]int{nil}, nil, api.ErrWidth)
	checkUnion(t, [][]int{nil, nil}, nil, api.ErrWidth)
	checkUnion(t, [][]int{{1}, nil, {1}}, nil, api.ErrWidth)
	for n := 1; n <= api.MaxN; n++ {
		for m := 1; m <= api.MaxN; m++ {
			if n != m {
				checkUnion(t, [][]int{filled(n, 1), filled(m, 1)}, nil, api.ErrWidth)
				checkUnion(t, [][]int{filled(n, 1), filled(n, 1), filled(m, 1)}, nil, api.ErrWidth)
				checkUnion(t, [][]int{filled(n, 1), filled(m, 1), filled(n, 1)}, nil, api.ErrWidth)
			}
		}
	}
}

func TestP3_1WidthsAheadOfEntries(t *testing.T) {
	checkUnion(t, [][]int{{1, -1}, {1, 2, 3}}, nil, api.ErrWidth)
	for _, x := range noEntries() {
		checkUnion(t, [][]int{{x, 1}, {1, 1}, {1}}, nil, api.ErrWidth)
		checkUnion(t, [][]int{{1, 1}, {1, x}, {1, 1, 1}}, nil, api.ErrWidth)
		checkUnion(t, [][]int{{1, 1}, {1}, {x, x}}, nil, api.ErrWidth)
		checkUnion(t, [][]int{{1, 1}, {x}}, nil, api.ErrWidth)
		checkUnion(t, [][]int{{x, x}, nil}, nil, api.ErrWidth)
	}
}

func TestP3_1UnionEntries(t *testing.T) {
	for n := 1; n <= api.MaxN; n++ {
		fine := filled(n, 5)
		for i := range n {
			for _, x := range noEntries() {
				wrong := with(fine, i, x)
				checkUnion(t, [][]int{wrong}, nil, api.ErrEntry)
				checkUnion(t, [][]int{wrong, fine}, nil, api.ErrEntry)
				checkUnion(t, [][]int{fine, wrong}, nil, api.ErrEntry)
				checkUnion(t, [][]int{fine, fine, wrong, fine}, nil, api.ErrEntry)
				checkUnion(t, [][]int{filled(n, top), wrong}, nil, api.ErrEntry)
			}
			for _, x := range []int{0, top} {
				checkUnion(t, [][]int{with(fine, i, x), filled(n, 0)}, with(fine, i, x), api.OK)
			}
		}
	}
}

func wordsCovers(a, b []int) bool {
	below := 0
	for i := range min(len(a), len(b)) {
		if a[i] < b[i] {
			below++
		}
	}
	return wordsVector(a) && wordsVector(b) && len(a) == len(b) && below == 0
}

func TestP3_2Covers(t *testing.T) {
	for _, c := range []struct {
		a, b []int
		want bool
	}{
		{[]int{3, 5, 0}, []int{3, 2, 0}, true},
		{[]int{3, 2, 0}, []int{3, 5, 0}, false},
		{[]int{1, 0}, []int{0, 1}, false},
		{[]int{0, 1}, []int{1, 0}, false},
		{[]int{top}, []int{0}, true},
		{[]int{0}, []int{top}, false},
		{[]int{0}, []int{0}, true},
		{filled(7, 4), filled(7, 4), true},
		{with(filled(7, 4), 6, 3), filled(7, 4), false},
		{with(filled(7, 9), 0, 3), filled(7, 4), false},
		{filled(8, 1), filled(8, 1), false},
		{filled(8, 1), filled(8, 0), false},
	} {
		if got := vector.Covers(c.a, c.b); got != c.want {
			t.Errorf("Covers(%v, %v) = %v", c.a, c.b, got)
		}
	}
}

func TestP3_2CoversOfSmallLists(t *testing.T) {
	lists := smallLists()
	for _, a := range lists {
		for _, b := range lists {
			if got, want := vector.Covers(a, b), wordsCovers(a, b); got != want {
				t.Errorf("Covers(%v, %v) = %v", a, b, got)
			}
		}
	}
}

func TestP3_2CoversItself(t *testing.T) {
	d := dice(3)
	for n := 1; n <= api.MaxN; n++ {
		for range 50 {
			a := d.vector(n)
			if !vector.Covers(a, a) || !vector.Covers(a, slices.Clone(a)) {
				t.Errorf("%v does not cover itself", a)
			}
			i := d.below(n)
			if less := with(a, i, a[i]-1); a[i] > 0 && (!vector.Covers(a, less) || vector.Covers(less, a)) {
				t.Errorf("%v and %v", a, less)
			}
		}
	}
}

func TestP3_2NoVectorCovers(t *testing.T) {
	for _, wrong := range noVectors() {
		if vector.Covers(wrong, wrong) || vector.Covers(wrong, slices.Clone(wrong)) {
			t.Errorf("%v covers itself", wrong)
		}
		for _, fine := range [][]int{{0}, {1, 1, 1}, filled(max(len(wrong), 1), 0), filled(max(len(wrong), 1), top)} {
			if vector.Covers(wrong, fine) || vector.Covers(fine, wrong) {
				t.Errorf("%v and %v: one covers the other", wrong, fine)
			}
		}
	}
	for _, pair := range [][2][]int{{nil, nil}, {nil, {}}, {{}, nil}, {{}, {}}} {
		if vector.Covers(pair[0], pair[1]) {
			t.Errorf("nothing covers nothing")
		}
	}
}

func TestP3_2UnlikeLengths(t *testing.T) {
	for n := 1; n <= api.MaxN; n++ {
		for m := 1; m <= api.MaxN; m++ {
			if got := vector.Covers(filled(n, top), filled(m, 0)); got != (n == m) {
				t.Errorf("Covers of lengths %d and %d = %v", n, m, got)
			}
		}
	}
}

func checkHolds(t *testing.T, d []int, row, num int, want bool) {
	t.Helper()
	if got := vector.Holds(d, api.Inst{Row: row, Num: num}); got != want {
		t.Errorf("Holds(%v, {%d, %d}) = %v", d, row, num, got)
	}
}

func TestP3_3Holds(t *testing.T) {
	d := []int{3, 5, 0}
	checkHolds(t, d, 1, 5, true)
	checkHolds(t, d, 1, 6, false)
	checkHolds(t, d, 2, 0, false)
	checkHolds(t, d, 2, 1, false)
	checkHolds(t, d, 3, 1, false)
	for _, d := range [][]int{{0}, {1}, {top}, {3, 5, 0}, {5, 3, 0}, {0, 1, 2, 3, 4, 5, 6}, {top, 0, top, 0, top, 0, 7}} {
		for row, most := range d {
			for _, num := range []int{math.MinInt, -1, 0, 1, 2, most / 2, most - 1, most, most + 1, top, top + 1, math.MaxInt} {
				checkHolds(t, d, row, num, num >= 1 && num <= most)
			}
		}
	}
}

func TestP3_3HoldsNoSuchRow(t *testing.T) {
	for n := 1; n <= api.MaxN; n++ {
		for _, row := range []int{math.MinInt, -n, -1, n, n + 1, 1 << 32, math.MaxInt} {
			for _, num := range []int{-1, 0, 1, top, top + 1} {
				checkHolds(t, filled(n, top), row, num, false)
			}
		}
	}
}

func TestP3_3NoVectorHolds(t *testing.T) {
	for _, wrong := range noVectors() {
		for row := -1; row <= 8; row++ {
			for _, num := range []int{-1, 0, 1, top, top + 1, math.MaxInt} {
				checkHolds(t, wrong, row, num, false)
			}
		}
	}
	for i := range 7 {
		checkHolds(t, with(filled(7, 9), i, -1), (i+1)%7, 1, false)
		checkHolds(t, with(filled(7, 9), i, top+1), (i+1)%7, 1, false)
	}
	checkHolds(t, filled(8, 9), 0, 1, false)
}

func checkRaise(t *testing.T, d []int, row, num int, want []int) {
	t.Helper()
	if got := vector.Raise(d, api.Inst{Row: row, Num: num}); !slices.Equal(got, want) {
		t.Errorf("Raise(%v, {%d, %d}) = %v, want %v", d, row, num, got, want)
	}
}

func TestP3_4Raise(t *testing.T) {
	checkRaise(t, []int{3, 5, 0}, 2, 4, []int{3, 5, 4})
	checkRaise(t, []int{3, 5, 0}, 1, 2, []int{3, 5, 0})
	for _, d := range [][]int{{0}, {1}, {top - 1}, {top}, {3, 5, 0}, {0, 1, 2, 3, 4, 5, 6}, filled(7, top), filled(7, 0)} {
		for row, was := range d {
			for _, num := range []int{1, 2, 4, was - 1, was, was + 1, top - 1, top} {
				if num < 1 || num > top {
					continue
				}
				want := with(d, row, was)
				if num > was {
					want[row] = num
				}
				checkRaise(t, d, row, num, want)
			}
		}
	}
}

func TestP3_4NumOutOfBounds(t *testing.T) {
	for _, d := range [][]int{{0}, {5}, {top}, {3, 5, 0}, filled(7, top)} {
		for row := range d {
			for _, num := range []int{math.MinInt, -1, 0, top + 1, top + 2, 1<<32 + 1, math.MaxInt} {
				checkRaise(t, d, row, num, nil)
			}
		}
	}
}

func TestP3_4RowOutOfBounds(t *testing.T) {
	for n := 1; n <= api.MaxN; n++ {
		for _, row := range []int{math.MinInt, -n, -1, n, n + 1, api.MaxN, 1 << 32, math.MaxInt} {
			for _, num := range []int{0, 1, top, top + 1} {
				checkRaise(t, filled(n, 1), row, num, nil)
				checkRaise(t, make([]int, n, api.MaxN+1), row, num, nil)
			}
		}
	}
}

func TestP3_4NoVector(t *testing.T) {
	for _, wrong := range noVectors() {
		for row := -1; row <= 8; row++ {
			for _, num := range []int{0, 1, 7, top, top + 1} {
				checkRaise(t, wrong, row, num, nil)
			}
		}
	}
}

// What Raise answers covers d and holds x, and whatever else does so covers it.
func TestP3_4RaiseIsTheLeast(t *testing.T) {
	d := dice(4)
	for range 2000 {
		n := 1 + d.below(api.MaxN)
		a, other := d.vector(n), d.vector(n)
		x := api.Inst{Row: d.below(n), Num: max(1, d.entry())}
		got := vector.Raise(a, x)
		if !vector.Covers(got, a) || !vector.Holds(got, x) {
			t.Fatalf("Raise(%v, %v) = %v", a, x, got)
		}
		other[x.Row] = max(other[x.Row], x.Num)
		above, e := vector.Union(a, other)
		if e != api.OK || !vector.Covers(above, got) {
			t.Fatalf("Raise(%v, %v) = %v is not below %v, %d", a, x, got, above, e)
		}
	}
}
