package vector_test

import (
	"bytes"
	"math"
	"slices"
	"testing"

	"moot/api"
	"moot/vector"
	"moot/wire"
)

// layout is a vector with its bytes at both versions.
type layout struct {
	d      []int
	v1, v2 []byte
}

func layouts() []layout {
	return []layout{
		{[]int{0, 0, 0}, []byte{0, 0, 0}, []byte{0}},
		{[]int{5, 5, 5}, []byte{5, 5, 5}, []byte{1, 0x0a}},
		{[]int{3, 5, 0}, []byte{3, 5, 0}, []byte{7, 6, 4, 9}},
		{[]int{0, 300, 300}, []byte{0, 0xac, 2, 0xac, 2}, []byte{2, 0xd8, 4}},
		{[]int{top}, []byte{0x80, 0x80, 0x40}, []byte{1, 0x80, 0x80, 0x80, 1}},
		{[]int{0}, []byte{0}, []byte{0}},
		{[]int{1}, []byte{1}, []byte{1, 2}},
		{[]int{top, 0}, []byte{0x80, 0x80, 0x40, 0}, []byte{3, 0x80, 0x80, 0x80, 1, 0xff, 0xff, 0x7f}},
		{[]int{0, top}, []byte{0, 0x80, 0x80, 0x40}, []byte{2, 0x80, 0x80, 0x80, 1}},
		{[]int{64, 0, 64}, []byte{64, 0, 64}, []byte{7, 0x80, 1, 0x7f, 0x80, 1}},
		{[]int{0, 0, 0, 0, 0, 0, 1}, []byte{0, 0, 0, 0, 0, 0, 1}, []byte{0x40, 2}},
		{[]int{1, 1, 1, 1, 1, 1, 0}, []byte{1, 1, 1, 1, 1, 1, 0}, []byte{0x41, 2, 1}},
		{[]int{7, 6, 5, 4, 3, 2, 1}, []byte{7, 6, 5, 4, 3, 2, 1}, []byte{0x7f, 14, 1, 1, 1, 1, 1, 1}},
		{filled(7, 0), make([]byte, 7), []byte{0}},
		{filled(7, 127), run(0x7f, 7), []byte{1, 0xfe, 1}},
	}
}

func checkPack(t *testing.T, v int, d []int, want []byte, fault api.Errno) {
	t.Helper()
	if got, e := vector.Pack(v, d); !bytes.Equal(got, want) || e != fault {
		t.Errorf("Pack(%d, %v) = %x, %d, want %x, %d", v, d, got, e, want, fault)
	}
}

func checkUnpack(t *testing.T, v, n int, b []byte, want []int, size int, fault api.Errno) {
	t.Helper()
	if got, k, e := vector.Unpack(v, n, b); !slices.Equal(got, want) || k != size || e != fault {
		t.Errorf("Unpack(%d, %d, %x) = %v, %d, %d, want %v, %d, %d", v, n, b, got, k, e, want, size, fault)
	}
}

func refuses(t *testing.T, v, n int, b []byte, fault api.Errno) {
	t.Helper()
	checkUnpack(t, v, n, b, nil, 0, fault)
}

// wordsPack is the layout, once more from the words of P3.5: the places that differ are gathered first.
func wordsPack(v int, d []int) []byte {
	var out []byte
	if v == 1 {
		for _, x := range d {
			out = join(out, wire.PutUint(uint64(x)))
		}
		return out
	}
	shifted := append([]int{0}, d...)
	mask, worth := 0, 1
	for i, x := range d {
		if x != shifted[i] {
			mask += worth
			out = join(out, wire.PutInt(int64(x)-int64(shifted[i])))
		}
		worth *= 2
	}
	return join(wire.PutUint(uint64(mask)), out)
}

func TestP3_5Pack(t *testing.T) {
	for _, c := range layouts() {
		checkPack(t, 1, c.d, c.v1, api.OK)
		checkPack(t, 2, c.d, c.v2, api.OK)
	}
	d := dice(10)
	for range 3000 {
		list := d.vector(1 + d.below(api.MaxN))
		checkPack(t, 1, list, wordsPack(1, list), api.OK)
		checkPack(t, 2, list, wordsPack(2, list), api.OK)
	}
}

func TestP3_5Versions(t *testing.T) {
	for _, v := range noVersions() {
		for _, d := range [][]int{{1}, {3, 5, 0}, nil, {}, {-1}, {top + 1}, filled(8, -1)} {
			checkPack(t, v, d, nil, api.ErrVersion)
		}
	}
}

func TestP3_5Widths(t *testing.T) {
	for v := 1; v <= 2; v++ {
		checkPack(t, v, nil, nil, api.ErrWidth)
		for _, n := range noWidths() {
			for _, x := range []int{0, 1, -1, top + 1} {
				checkPack(t, v, filled(n, x), nil, api.ErrWidth)
			}
		}
	}
}

func TestP3_5Entries(t *testing.T) {
	for v := 1; v <= 2; v++ {
		for n := 1; n <= api.MaxN; n++ {
			for i := range n {
				for _, x := range noEntries() {
					checkPack(t, v, with(filled(n, 3), i, x), nil, api.ErrEntry)
					checkPack(t, v, filled(n, x), nil, api.ErrEntry)
				}
			}
		}
	}
}

func TestP3_6Unpack(t *testing.T) {
	for _, c := range layouts() {
		for _, tail := range tails() {
			checkUnpack(t, 1, len(c.d), join(c.v1, tail), c.d, len(c.v1), api.OK)
			checkUnpack(t, 2, len(c.d), join(c.v2, tail), c.d, len(c.v2), api.OK)
		}
	}
}

func tails() [][]byte {
	return [][]byte{nil, {0}, {1}, {0x80}, {0x80, 0}, {7, 6, 4, 9}, run(0xff, 20)}
}

func TestP3_6VersionsAndSizes(t *testing.T) {
	inputs := [][]byte{nil, {}, {0}, {0, 0, 0}, {0x80, 0}, {0x80}, run(0xff, 12), make([]byte, 20)}
	sizes := []int{0, -1, -7, 8, 9, 63, 64, 65, 256, 257, 1<<32 + 1, math.MinInt, math.MaxInt}
	for _, b := range inputs {
		for _, v := range noVersions() {
			for _, n := range append(sizes, 1, 3, 7) {
				refuses(t, v, n, b, api.ErrVersion)
			}
		}
		for _, n := range sizes {
			refuses(t, 1, n, b, api.ErrSize)
			refuses(t, 2, n, b, api.ErrSize)
		}
	}
}

// brokenNumbers are bytes at which no varint stands, with layer 1's error.
func brokenNumbers() map[string]api.Errno {
	return map[string]api.Errno{
		"":                          api.ErrShort,
		"\x80":                      api.ErrShort,
		"\xff\xff":                  api.ErrShort,
		string(run(0xff, 9)):        api.ErrShort,
		"\x80\x00":                  api.ErrForm,
		"\x81\x00\x01":              api.ErrForm,
		string(run(0x80, 9, 0)):     api.ErrForm,
		string(run(0xff, 9, 0, 1)):  api.ErrForm,
		string(run(0xff, 9, 2)):     api.ErrWide,
		string(run(0x80, 9, 0x80)):  api.ErrWide,
		string(run(0xff, 30)):       api.ErrWide,
		string(run(0x80, 9, 3, 17)): api.ErrWide,
	}
}

func TestP3_6BrokenNumbersAtEveryPlace(t *testing.T) {
	for bad, fault := range brokenNumbers() {
		for n := 1; n <= api.MaxN; n++ {
			refuses(t, 2, n, []byte(bad), fault)
			for i := range n {
				refuses(t, 1, n, join(run(5, i), []byte(bad)), fault)
				refuses(t, 1, n, join(bytes.Repeat([]byte{0x80, 0x80, 0x40}, i), []byte(bad)), fault)
				full := byte(1<<n - 1)
				refuses(t, 2, n, join([]byte{full}, run(4, i), []byte(bad)), fault)
				refuses(t, 2, n, join([]byte{1 << i}, []byte(bad)), fault)
			}
		}
	}
}

// Where one number more than the vector has is broken, nobody looks at it.
func TestP3_6NothingBehindIsLookedAt(t *testing.T) {
	for bad := range brokenNumbers() {
		for n := 1; n <= api.MaxN; n++ {
			checkUnpack(t, 1, n, join(run(5, n), []byte(bad)), filled(n, 5), n, api.OK)
			checkUnpack(t, 2, n, join([]byte{0}, []byte(bad)), filled(n, 0), 1, api.OK)
			checkUnpack(t, 2, n, join([]byte{1, 10}, []byte(bad)), filled(n, 5), 2, api.OK)
		}
	}
}

func TestP3_6NumbersAboveMaxNum(t *testing.T) {
	for _, x := range []uint64{top + 1, top + 2, 2 * top, 1 << 32, 1<<32 + 1, 1<<63 - 1, 1 << 63, 1<<63 + 1, math.MaxUint64} {
		for n := 1; n <= api.MaxN; n++ {
			for i := range n {
				for _, tail := range tails() {
					refuses(t, 1, n, join(run(5, i), wire.PutUint(x), tail), api.ErrEntry)
				}
			}
		}
	}
	refuses(t, 1, 3, []byte{0x81, 0x80, 0x40, 0, 0}, api.ErrEntry)
	checkUnpack(t, 1, 2, []byte{0x80, 0x80, 0x40, 0}, []int{top, 0}, 4, api.OK)
}

func TestP3_6Masks(t *testing.T) {
	refuses(t, 2, 3, []byte{8, 2}, api.ErrMask)
	for n := 1; n <= api.MaxN; n++ {
		bound := uint64(1) << n
		for _, mask := range []uint64{bound, bound + 1, 2 * bound, 2*bound - 1, 128, 255, 256, 1 << 32, 1<<32 + 1, 1 << 63, 1<<63 + 1, math.MaxUint64} {
			for _, tail := range append(tails(), run(2, 70)) {
				refuses(t, 2, n, join(wire.PutUint(mask), tail), api.ErrMask)
			}
		}
		for mask := range int(bound) {
			want, before := make([]int, n), 0
			b := []byte{byte(mask)}
			for i := range n {
				if mask&(1<<i) != 0 {
					before += 3
					b = append(b, 6)
				}
				want[i] = before
			}
			checkUnpack(t, 2, n, b, want, len(b), api.OK)
		}
	}
}

func TestP3_6DifferenceOfZero(t *testing.T) {
	refuses(t, 2, 3, []byte{1, 0}, api.ErrStill)
	for n := 1; n <= api.MaxN; n++ {
		for i := range n {
			for _, tail := range tails() {
				refuses(t, 2, n, join([]byte{1 << i, 0}, tail), api.ErrStill)
				refuses(t, 2, n, join([]byte{1<<n - 1}, run(2, i), []byte{0}, tail), api.ErrStill)
			}
		}
	}
}

// differences are signed numbers around every power of two and around what the entries leave room for.
func differences() []int64 {
	out := []int64{math.MinInt64, math.MinInt64 + 1, math.MaxInt64, math.MaxInt64 - 1}
	for i := range 63 {
		p := int64(1) << i
		out = append(out, p-1, p, p+1, -p, -p-1, -p+1)
	}
	for _, before := range []int64{0, 1, 5, top / 2, top - 1, top} {
		for k := int64(-2); k <= 2; k++ {
			out = append(out, k-before, top-before+k, math.MaxInt64-before+min(k, 0), math.MinInt64+before+max(k, 0))
		}
	}
	return out
}

func TestP3_6DifferencesOfAnySize(t *testing.T) {
	for _, x := range differences() {
		for _, before := range []int{0, 1, 5, top / 2, top - 1, top} {
			var b []byte
			want := []int{before, before, before}
			if before == 0 {
				b = join([]byte{2}, wire.PutInt(x))
			} else {
				b = join([]byte{3}, wire.PutInt(int64(before)), wire.PutInt(x))
			}
			switch {
			case x == 0:
				refuses(t, 2, 3, b, api.ErrStill)
			case x < int64(-before), x > int64(top-before):
				refuses(t, 2, 3, b, api.ErrEntry)
			default:
				want[1], want[2] = before+int(x), before+int(x)
				checkUnpack(t, 2, 3, b, want, len(b), api.OK)
			}
		}
	}
}

// The entry out of bounds may stand at any place, and what comes behind it would bring it back.
func TestP3_6EntriesOutOfBoundsAtEveryPlace(t *testing.T) {
	for n := 1; n <= api.MaxN; n++ {
		for i := range n {
			head := join([]byte{1<<n - 1}, run(2, i))
			for _, tail := range tails() {
				refuses(t, 2, n, join(head, wire.PutInt(int64(-i-1)), tail), api.ErrEntry)
				refuses(t, 2, n, join(head, wire.PutInt(int64(top-i+1)), tail), api.ErrEntry)
				refuses(t, 2, n, join(head, wire.PutInt(int64(top-i+1)), wire.PutInt(-1), tail), api.ErrEntry)
				refuses(t, 2, n, join(head, wire.PutInt(math.MinInt64), tail), api.ErrEntry)
				refuses(t, 2, n, join(head, wire.PutInt(math.MaxInt64), tail), api.ErrEntry)
			}
		}
	}
}

func TestP3_6FirstFault(t *testing.T) {
	for _, c := range []struct {
		v, n  int
		b     []byte
		fault api.Errno
	}{
		{1, 2, []byte{0x81, 0x80, 0x40, 0x80}, api.ErrEntry},
		{1, 2, []byte{0x80, 0x00, 0x81, 0x80, 0x40}, api.ErrForm},
		{1, 3, []byte{0, 0x81, 0x80, 0x40}, api.ErrEntry},
		{1, 3, []byte{0, 0}, api.ErrShort},
		{2, 3, []byte{8}, api.ErrMask},
		{2, 3, []byte{8, 0x80, 0}, api.ErrMask},
		{2, 3, []byte{0x88, 0}, api.ErrForm},
		{2, 3, []byte{0x88}, api.ErrShort},
		{2, 3, []byte{3, 0, 0x80, 0}, api.ErrStill},
		{2, 3, []byte{3, 1, 0}, api.ErrEntry},
		{2, 3, []byte{3, 0, 1}, api.ErrStill},
		{2, 3, []byte{3, 1}, api.ErrEntry},
		{2, 3, []byte{3, 2}, api.ErrShort},
		{2, 3, []byte{3, 0x80, 0, 0}, api.ErrForm},
		{2, 3, []byte{7, 2, 3, 1}, api.ErrEntry},
	} {
		refuses(t, c.v, c.n, c.b, c.fault)
	}
}

func checkOneLayout(t *testing.T, v int, d []int) {
	t.Helper()
	b := packed(t, v, d)
	for _, tail := range tails() {
		checkUnpack(t, v, len(d), join(b, tail), d, len(b), api.OK)
	}
	for i := range b {
		refuses(t, v, len(d), b[:i], api.ErrShort)
		refuses(t, v, len(d), bytes.Clone(b[:i]), api.ErrShort)
	}
}

func TestP3_7UnpackOfPack(t *testing.T) {
	d := dice(20)
	for v := 1; v <= 2; v++ {
		for _, c := range layouts() {
			checkOneLayout(t, v, c.d)
		}
		for n := 1; n <= api.MaxN; n++ {
			checkOneLayout(t, v, filled(n, top))
			for range 200 {
				checkOneLayout(t, v, d.vector(n))
			}
		}
	}
}
