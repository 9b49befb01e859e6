package vector_test

import (
	"bytes"
	"math/big"
	"slices"
	"testing"

	"moot/api"
	"moot/vector"
	"moot/wire"
)

// model reads n entries, once more from the words of P3.6, with sums of any size.
func model(v, n int, b []byte) ([]int, int, api.Errno) {
	if v == 1 {
		return modelPlain(n, b)
	}
	return modelTight(n, b)
}

func modelPlain(n int, b []byte) ([]int, int, api.Errno) {
	rest := b
	var out []int
	for len(out) < n {
		x, size, e := wire.GetUint(rest)
		switch {
		case e != api.OK:
			return nil, 0, e
		case x > 1048576:
			return nil, 0, api.ErrEntry
		}
		out, rest = append(out, int(x)), rest[size:]
	}
	return out, len(b) - len(rest), api.OK
}

func modelTight(n int, b []byte) ([]int, int, api.Errno) {
	mask, size, e := wire.GetUint(b)
	if e != api.OK {
		return nil, 0, e
	}
	left := new(big.Int).SetUint64(mask)
	if left.BitLen() > n {
		return nil, 0, api.ErrMask
	}
	rest, sum := b[size:], new(big.Int)
	var out []int
	for i := range n {
		if left.Bit(i) == 1 {
			x, size, e := wire.GetInt(rest)
			if e != api.OK {
				return nil, 0, e
			}
			sum.Add(sum, big.NewInt(x))
			switch {
			case x == 0:
				return nil, 0, api.ErrStill
			case sum.Sign() < 0, sum.Cmp(big.NewInt(1048576)) > 0:
				return nil, 0, api.ErrEntry
			}
			rest = rest[size:]
		}
		out = append(out, int(sum.Int64()))
	}
	return out, len(b) - len(rest), api.OK
}

// checkAgainstModel holds Unpack against the model; what it takes is just what Pack would write.
func checkAgainstModel(t *testing.T, v, n int, b []byte) {
	t.Helper()
	want, size, fault := model(v, n, b)
	got, k, e := vector.Unpack(v, n, b)
	if !slices.Equal(got, want) || k != size || e != fault {
		t.Fatalf("Unpack(%d, %d, %x) = %v, %d, %d, want %v, %d, %d", v, n, b, got, k, e, want, size, fault)
	}
	if e != api.OK {
		return
	}
	if again, e := vector.Pack(v, got); !bytes.Equal(again, b[:k]) || e != api.OK {
		t.Fatalf("Unpack(%d, %d, %x) = %v, but Pack of that is %x, %d", v, n, b[:k], got, again, e)
	}
}

// TestP3_7EveryShortLayout goes through all short byte strings over telling bytes.
func TestP3_7EveryShortLayout(t *testing.T) {
	level := [][]byte{nil}
	for range 6 {
		var next [][]byte
		for _, b := range level {
			for n := 1; n <= 3; n++ {
				checkAgainstModel(t, 1, n, b)
				checkAgainstModel(t, 2, n, b)
			}
			checkAgainstModel(t, 2, 7, b)
			for _, x := range []byte{0, 1, 2, 3, 7, 0x7f, 0x80, 0x81} {
				next = append(next, join(b, []byte{x}))
			}
		}
		level = next
	}
}

func TestP3_7ThrownLayouts(t *testing.T) {
	d := dice(30)
	for range 50000 {
		v, n := 1+d.below(2), 1+d.below(api.MaxN)
		b := bytes.Clone(packed(t, v, d.vector(n)))
		switch d.below(4) {
		case 0:
			b[d.below(len(b))] ^= 1 << d.below(8)
		case 1:
			b = b[:d.below(len(b)+1)]
		case 2:
			at := d.below(len(b) + 1)
			b = join(b[:at], wire.PutInt(pick(&d, differences())), b[at:])
		}
		checkAgainstModel(t, v, n, b)
		checkAgainstModel(t, 3-v, n, b)
	}
}

// Of two vectors of one length neither layout begins the other.
func TestP3_7NoLayoutBeginsAnother(t *testing.T) {
	for v := 1; v <= 2; v++ {
		for n := 1; n <= 3; n++ {
			seen := map[string][]int{}
			for _, d := range smallLists() {
				if len(d) == n && wordsVector(d) {
					seen[string(packed(t, v, d))] = d
				}
			}
			count := 1
			for range n {
				count *= 4
			}
			if len(seen) != count {
				t.Errorf("version %d: %d vectors of %d entries have %d layouts", v, count, n, len(seen))
			}
			for b, d := range seen {
				for i := range len(b) {
					if other, ok := seen[b[:i]]; ok {
						t.Errorf("version %d: the layout of %v begins that of %v", v, other, d)
					}
				}
			}
		}
	}
}
