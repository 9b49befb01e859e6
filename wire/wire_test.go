package wire_test

import (
	"bytes"
	"math"
	"math/big"
	"strings"
	"testing"

	"moot/api"
	"moot/wire"
)

// run is n times the byte b, then the tail.
func run(b byte, n int, tail ...byte) []byte { return append(bytes.Repeat([]byte{b}, n), tail...) }

func join(parts ...[]byte) []byte { return bytes.Join(parts, nil) }

// edges are the numbers around every power of two, so around every step of a form's length.
func edges() []uint64 {
	out := []uint64{0, 300, math.MaxUint64}
	for i := range 64 {
		p := uint64(1) << i
		out = append(out, p-1, p, p+1, math.MaxUint64-p)
	}
	return out
}

func signedEdges() []int64 {
	var out []int64
	for _, x := range edges() {
		out = append(out, int64(x), -int64(x))
	}
	return out
}

// groups is the form of a number, by long division.
func groups(x *big.Int) []byte {
	seven, rest := big.NewInt(128), new(big.Int).Set(x)
	var out []byte
	for {
		low := new(big.Int)
		rest.DivMod(rest, seven, low)
		if rest.Sign() == 0 {
			return append(out, byte(low.Int64()))
		}
		out = append(out, byte(low.Int64())+128)
	}
}

func groupsOf(x uint64) []byte { return groups(new(big.Int).SetUint64(x)) }

// folded is 2x, or -2x - 1 of an x below 0, as exact sums.
func folded(x int64) *big.Int {
	twice := new(big.Int).Mul(big.NewInt(2), big.NewInt(x))
	if x >= 0 {
		return twice
	}
	return twice.Sub(twice.Neg(twice), big.NewInt(1))
}

func TestP1_1PutUint(t *testing.T) {
	for _, c := range []struct {
		x    uint64
		want []byte
	}{
		{0, []byte{0}},
		{1, []byte{1}},
		{127, []byte{0x7f}},
		{128, []byte{0x80, 1}},
		{300, []byte{0xac, 2}},
		{16383, []byte{0xff, 0x7f}},
		{16384, []byte{0x80, 0x80, 1}},
		{1<<63 - 1, run(0xff, 8, 0x7f)},
		{1 << 63, run(0x80, 9, 1)},
		{math.MaxUint64, run(0xff, 9, 1)},
	} {
		if got := wire.PutUint(c.x); !bytes.Equal(got, c.want) {
			t.Errorf("PutUint(%d) = %x, want %x", c.x, got, c.want)
		}
	}
	for _, x := range edges() {
		if got, want := wire.PutUint(x), groupsOf(x); !bytes.Equal(got, want) {
			t.Errorf("PutUint(%d) = %x, want %x", x, got, want)
		}
	}
}

func TestP1_2GetUintReadsWhatPutUintWrites(t *testing.T) {
	tails := [][]byte{nil, {0}, {1}, {0x80}, {0x80, 0}, run(0xff, 20)}
	for _, x := range edges() {
		form := groupsOf(x)
		for _, tail := range tails {
			got, size, e := wire.GetUint(join(form, tail))
			if got != x || size != len(form) || e != api.OK {
				t.Errorf("GetUint(%x %x) = %d, %d, %d, want %d, %d, OK", form, tail, got, size, e, x, len(form))
			}
		}
	}
}

// badNumbers are bytes at which no number stands, with what is amiss first.
func badNumbers() map[string]api.Errno {
	bad := map[string]api.Errno{}
	for i := range 10 {
		bad[string(run(0x80, i))] = api.ErrShort
		bad[string(run(0xff, i))] = api.ErrShort
	}
	for i := 1; i <= 9; i++ {
		bad[string(run(0x80, i, 0))] = api.ErrForm
		bad[string(run(0xff, i, 0))] = api.ErrForm
		bad[string(run(0x81, i, 0, 0xff))] = api.ErrForm
	}
	for last := 2; last < 256; last++ {
		bad[string(run(0x80, 9, byte(last)))] = api.ErrWide
		bad[string(run(0xff, 9, byte(last)))] = api.ErrWide
		bad[string(run(0xff, 9, byte(last), 0, 1))] = api.ErrWide
	}
	bad[string([]byte{0xac, 0x82, 0})] = api.ErrForm
	bad[string(run(0x80, 30))] = api.ErrWide
	return bad
}

func TestP1_2GetUintRefuses(t *testing.T) {
	for b, want := range badNumbers() {
		if x, size, e := wire.GetUint([]byte(b)); x != 0 || size != 0 || e != want {
			t.Errorf("GetUint(%x) = %d, %d, %d, want 0, 0, %d", b, x, size, e, want)
		}
	}
	if x, size, e := wire.GetUint(nil); x != 0 || size != 0 || e != api.ErrShort {
		t.Errorf("GetUint(nil) = %d, %d, %d", x, size, e)
	}
}

func TestP1_2TenthByte(t *testing.T) {
	if x, size, e := wire.GetUint(run(0x80, 9, 1)); x != 1<<63 || size != 10 || e != api.OK {
		t.Errorf("GetUint(80 x 9, 01) = %d, %d, %d", x, size, e)
	}
	if x, size, e := wire.GetUint(run(0xff, 9, 1, 0xff)); x != math.MaxUint64 || size != 10 || e != api.OK {
		t.Errorf("GetUint(FF x 9, 01 FF) = %d, %d, %d", x, size, e)
	}
}

func TestP1_2EveryCutIsShort(t *testing.T) {
	for _, x := range edges() {
		form := groupsOf(x)
		for i := range form {
			if got, size, e := wire.GetUint(form[:i]); got != 0 || size != 0 || e != api.ErrShort {
				t.Errorf("GetUint(%x) = %d, %d, %d, want ErrShort", form[:i], got, size, e)
			}
		}
	}
}

func TestP1_3PutInt(t *testing.T) {
	for _, c := range []struct {
		x    int64
		want []byte
	}{
		{0, []byte{0}},
		{-1, []byte{1}},
		{1, []byte{2}},
		{63, []byte{0x7e}},
		{-64, []byte{0x7f}},
		{64, []byte{0x80, 1}},
		{-65, []byte{0x81, 1}},
		{math.MaxInt64, join(run(0xfe, 1), run(0xff, 8, 1))},
		{math.MinInt64, run(0xff, 9, 1)},
	} {
		if got := wire.PutInt(c.x); !bytes.Equal(got, c.want) {
			t.Errorf("PutInt(%d) = %x, want %x", c.x, got, c.want)
		}
	}
	for _, x := range signedEdges() {
		if got, want := wire.PutInt(x), groups(folded(x)); !bytes.Equal(got, want) {
			t.Errorf("PutInt(%d) = %x, want %x", x, got, want)
		}
	}
}

func TestP1_3GetInt(t *testing.T) {
	for _, x := range signedEdges() {
		form := groups(folded(x))
		got, size, e := wire.GetInt(join(form, []byte{0x80, 0}))
		if got != x || size != len(form) || e != api.OK {
			t.Errorf("GetInt(%x 80 00) = %d, %d, %d, want %d, %d, OK", form, got, size, e, x, len(form))
		}
	}
	for b, want := range badNumbers() {
		if x, size, e := wire.GetInt([]byte(b)); x != 0 || size != 0 || e != want {
			t.Errorf("GetInt(%x) = %d, %d, %d, want 0, 0, %d", b, x, size, e, want)
		}
	}
	if x, size, e := wire.GetInt(nil); x != 0 || size != 0 || e != api.ErrShort {
		t.Errorf("GetInt(nil) = %d, %d, %d", x, size, e)
	}
}

func everyByte() string {
	var b []byte
	for i := range 256 {
		b = append(b, byte(i))
	}
	return string(b)
}

func texts() []string {
	return []string{"", "a", "ab", "\x00", "\xff\xfe", "\u00fcber", strings.Repeat("x", 127), strings.Repeat("x", 128), everyByte(), strings.Repeat("y", 16383), strings.Repeat("y", 16384), strings.Repeat("z", 1<<21)}
}

func TestP1_4PutText(t *testing.T) {
	if got := wire.PutText("ab"); !bytes.Equal(got, []byte{2, 'a', 'b'}) {
		t.Errorf("PutText(ab) = %x", got)
	}
	for _, s := range texts() {
		want := join(groupsOf(uint64(len(s))), []byte(s))
		if got := wire.PutText(s); !bytes.Equal(got, want) {
			t.Errorf("PutText of %d bytes: wrong bytes", len(s))
		}
	}
}
