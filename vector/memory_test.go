package vector_test

import (
	"bytes"
	"slices"
	"testing"

	"moot/api"
	"moot/vector"
)

// room is a list with much spare room, and the whole that it is cut out of.
func room[T any](list []T, mark T) (cut, whole []T) {
	whole = append([]T{mark}, list...)
	for range 20 {
		whole = append(whole, mark)
	}
	return whole[1 : 1+len(list)], whole
}

// spoil writes x over a list and its spare room.
func spoil[T any](list []T, x T) {
	list = list[:cap(list)]
	for i := range list {
		list[i] = x
	}
}

// handed are the lists for the calls: vectors, wrong entries, wrong lengths.
func handed() [][]int {
	d := dice(40)
	out := [][]int{{}, {1, -1}, {top + 1}, filled(8, 1)}
	for n := 1; n <= api.MaxN; n++ {
		out = append(out, filled(n, 0), filled(n, top), d.vector(n), d.vector(n))
	}
	return out
}

func TestP3_8ListsStay(t *testing.T) {
	for _, list := range handed() {
		a, wholeA := room(list, -77)
		b, wholeB := room(filled(len(list), 5), -88)
		wasA, wasB := slices.Clone(wholeA), slices.Clone(wholeB)
		vector.Union(a)
		vector.Union(a, b)
		vector.Union(b, a, b)
		vector.Covers(a, b)
		vector.Covers(b, a)
		for row := -1; row <= 8; row++ {
			vector.Holds(a, api.Inst{Row: row, Num: 1})
			vector.Raise(a, api.Inst{Row: row, Num: top})
			vector.Raise(a, api.Inst{Row: row, Num: 1})
		}
		for v := range 4 {
			vector.Pack(v, a)
		}
		if !slices.Equal(wholeA, wasA) || !slices.Equal(wholeB, wasB) {
			t.Errorf("%v became %v, %v became %v", wasA, wholeA, wasB, wholeB)
		}
	}
}

func TestP3_8UnionKeepsTheListOfLists(t *testing.T) {
	first, second, behind := []int{1, 5}, []int{3, 2}, []int{9, 9}
	all := [][]int{first, second, behind}
	got, e := vector.Union(all[:2]...)
	if !slices.Equal(got, []int{3, 5}) || e != api.OK {
		t.Errorf("Union = %v, %d", got, e)
	}
	if &all[0][0] != &first[0] || &all[1][0] != &second[0] || &all[2][0] != &behind[0] {
		t.Errorf("the list of lists became %v", all)
	}
	if !slices.Equal(first, []int{1, 5}) || !slices.Equal(second, []int{3, 2}) || !slices.Equal(behind, []int{9, 9}) {
		t.Errorf("the lists became %v", all)
	}
}

func TestP3_8BytesStay(t *testing.T) {
	for _, layout := range [][]byte{nil, {0}, {7, 6, 4, 9}, {3, 5, 0}, {1, 0}, {1, 1}, {0x80, 0}, run(0xff, 9, 2), run(0xff, 9, 1)} {
		b, whole := room(layout, 0xee)
		was := bytes.Clone(whole)
		for v := range 4 {
			for n := range 9 {
				vector.Unpack(v, n, b)
			}
		}
		if !bytes.Equal(whole, was) {
			t.Errorf("%x became %x", was, whole)
		}
	}
}

// answers are the vectors that all calls give for one list.
func answers(d []int, layouts [][]byte) [][]int {
	one, _ := vector.Union(d)
	two, _ := vector.Union(d, d)
	three, _ := vector.Union(filled(len(d), 0), d)
	row := len(d) - 1
	out := [][]int{one, two, three, vector.Raise(d, api.Inst{Row: row, Num: max(d[row], 1)}), vector.Raise(d, api.Inst{Num: top})}
	for i, b := range layouts {
		for range 2 {
			u, _, _ := vector.Unpack(i+1, len(d), b)
			out = append(out, u)
		}
	}
	return out
}

func packed(t *testing.T, v int, d []int) []byte {
	t.Helper()
	b, e := vector.Pack(v, d)
	if e != api.OK {
		t.Fatalf("Pack(%d, %v) = %d", v, d, e)
	}
	return b
}

// Each answer is written full with a number of its own, spare room and all:
// where two share memory, or one with an argument, a number is lost.
func TestP3_8AnswersAreNewMemory(t *testing.T) {
	for _, list := range handed()[4:] {
		d, whole := room(list, -77)
		layouts := [][]byte{packed(t, 1, d), packed(t, 2, d)}
		was, layoutsWere := slices.Clone(whole), [][]byte{bytes.Clone(layouts[0]), bytes.Clone(layouts[1])}
		lists := append(answers(d, layouts), answers(d, layouts)...)
		fresh := answers(d, layouts)
		for i, l := range lists {
			if len(l) != len(d) {
				t.Fatalf("answer %d of %v is %v", i, d, l)
			}
			spoil(l, -1000-i)
		}
		for i, l := range lists {
			for _, x := range l[:cap(l)] {
				if x != -1000-i {
					t.Errorf("%v: answer %d shares memory with another", list, i)
				}
			}
		}
		if !slices.Equal(whole, was) || !bytes.Equal(layouts[0], layoutsWere[0]) || !bytes.Equal(layouts[1], layoutsWere[1]) {
			t.Errorf("an answer shares memory with what was handed in: %v became %v", was, whole)
		}
		for i, l := range answers(d, layouts) {
			if !slices.Equal(l, fresh[i]) {
				t.Errorf("answer %d of %v is %v once others were written over, was %v", i, d, l, fresh[i])
			}
		}
		spoil(whole, -5)
		if !slices.Equal(fresh[0], list) || !slices.Equal(fresh[len(fresh)-1], list) {
			t.Errorf("%v: an answer changed with the argument", list)
		}
	}
}

func TestP3_8LayoutsAreNewMemory(t *testing.T) {
	for _, list := range handed()[4:] {
		for v := 1; v <= 2; v++ {
			want := bytes.Clone(packed(t, v, list))
			layouts := [][]byte{packed(t, v, list), packed(t, v, list), packed(t, v, []int{top, 0, top})}
			for i, b := range layouts {
				spoil(b, byte(0xe0+i))
			}
			for i, b := range layouts {
				for _, x := range b[:cap(b)] {
					if x != byte(0xe0+i) {
						t.Errorf("%v: layout %d shares memory with another", list, i)
					}
				}
			}
			if got := packed(t, v, list); !bytes.Equal(got, want) {
				t.Errorf("Pack(%d, %v) = %x once others were written over, was %x", v, list, got, want)
			}
		}
	}
}

func TestP3_8VectorsOutliveTheirBytes(t *testing.T) {
	for v, b := range [][]byte{1: {3, 5, 0}, 2: {7, 6, 4, 9}} {
		if v == 0 {
			continue
		}
		d, _, _ := vector.Unpack(v, 3, b)
		spoil(b, 0xee)
		if !slices.Equal(d, []int{3, 5, 0}) {
			t.Errorf("version %d: the vector became %v with its bytes", v, d)
		}
	}
}
