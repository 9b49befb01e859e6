package crc_test

import (
	"math"
	"math/big"
	"testing"

	"moot/crc"
)

// matrix tells of each single bit what some number of steps makes of it.
type matrix [32]uint32

func (m matrix) of(r uint32) uint32 {
	var out uint32
	for i := range m {
		if r>>i&1 == 1 {
			out ^= m[i]
		}
	}
	return out
}

func (m matrix) after(first matrix) matrix {
	var out matrix
	for i := range out {
		out[i] = m.of(first[i])
	}
	return out
}

// stepped is r behind count steps, count as an exact number that nothing is taken from.
func stepped(r uint32, count *big.Int) uint32 {
	var power matrix
	for i := range power {
		power[i] = walk(1<<i, 1)
	}
	for i := range count.BitLen() {
		if count.Bit(i) == 1 {
			r = power.of(r)
		}
		power = power.after(power)
	}
	return r
}

func eightTimes(n int) *big.Int { return new(big.Int).Mul(big.NewInt(8), big.NewInt(int64(n))) }

// around is the number of steps behind which every register is what it was.
const around = 1<<31 - 1

// greatCounts are lengths around the powers of two and around what comes round.
func greatCounts() []int {
	out := []int{math.MaxInt, math.MaxInt - 1, math.MaxInt / 8, math.MaxInt/8 + 1}
	for i := range 63 {
		out = append(out, 1<<i-1, 1<<i, 1<<i+1)
	}
	for _, times := range []int{1, 2, 3, 7, 8, 1 << 20, 1<<32 - 1, math.MaxInt / around} {
		out = append(out, times*around-1, times*around, times*around+1)
	}
	return out
}

func TestP2_4JoinOfNoLength(t *testing.T) {
	d := &dice{20}
	below := []int{-1, -2, -8, -around, -around - 1, math.MinInt, math.MinInt + 1}
	for i := range 63 {
		below = append(below, -1<<i)
	}
	for _, n := range below {
		a, b := d.word(), d.word()
		if got := crc.Join(a, b, n); got != 0 {
			t.Errorf("Join(%08X, %08X, %d) = %08X, want 0", a, b, n, got)
		}
	}
	for _, a := range registers(d) {
		b := d.word()
		if got := crc.Join(a, b, 0); got != a^b {
			t.Errorf("Join(%08X, %08X, 0) = %08X, want %08X", a, b, got, a^b)
		}
	}
}

func TestP2_4JoinBySteps(t *testing.T) {
	d := &dice{21}
	for _, a := range registers(d) {
		r, b := a, d.word()
		for n := range 300 {
			if got := crc.Join(a, b, n); got != r^b {
				t.Fatalf("Join(%08X, %08X, %d) = %08X, want %08X", a, b, n, got, r^b)
			}
			r = walk(r, 8)
		}
	}
}

func TestP2_4JoinOfGreatLengths(t *testing.T) {
	d := &dice{22}
	for _, n := range greatCounts() {
		a, b := d.word(), d.word()
		if got, want := crc.Join(a, b, n), stepped(a, eightTimes(n))^b; got != want {
			t.Errorf("Join(%08X, %08X, %d) = %08X, want %08X", a, b, n, got, want)
		}
	}
	for range 300 {
		n := int(uint64(d.word())<<31 | uint64(d.word()>>1))
		a, b := d.word(), d.word()
		if got, want := crc.Join(a, b, n), stepped(a, eightTimes(n))^b; got != want {
			t.Errorf("Join(%08X, %08X, %d) = %08X, want %08X", a, b, n, got, want)
		}
	}
}

func TestP2_4LengthsComeRound(t *testing.T) {
	for _, a := range registers(&dice{23}) {
		for _, n := range []int{around, 2 * around, math.MaxInt - math.MaxInt%around} {
			if got := crc.Join(a, 0, n); got != a {
				t.Errorf("Join(%08X, 0, %d) = %08X", a, n, got)
			}
		}
	}
}

func TestP2_4JoinInTwoParts(t *testing.T) {
	for _, a := range registers(&dice{24}) {
		whole := crc.Join(a, 0, math.MaxInt)
		parts := crc.Join(crc.Join(a, 0, 1<<62), 0, 1<<62-1)
		if whole != parts {
			t.Errorf("of %08X: %08X, in two parts %08X", a, whole, parts)
		}
	}
}

func TestP2_4JoinOfPieces(t *testing.T) {
	d := &dice{25}
	b := d.bytes(300)
	for i := range len(b) + 1 {
		if got, want := crc.Join(crc.Sum(b[:i]), crc.Sum(b[i:]), len(b)-i), walked(0, b); got != want {
			t.Errorf("cut at %d: %08X, want %08X", i, got, want)
		}
	}
	long := d.bytes(1<<20 + 3)
	for _, i := range []int{0, 1, 1 << 10, 1<<20 + 2} {
		if got, want := crc.Join(crc.Sum(long[:i]), crc.Sum(long[i:]), len(long)-i), crc.Sum(long); got != want {
			t.Errorf("a long list cut at %d: %08X, want %08X", i, got, want)
		}
	}
}

// A call that walked its way would not come to an end here.
func TestP2_4JoinIsQuick(t *testing.T) {
	var r uint32 = 5
	for i := range 20000 {
		r = crc.Join(r, uint32(i), math.MaxInt-i)
	}
	if r == 0 {
		t.Error("the joins made nothing")
	}
}
