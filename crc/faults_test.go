package crc_test

import (
	"bytes"
	"math/bits"
	"testing"

	"moot/crc"
)

// turn turns bit k of b over, counted as P2.6 counts.
func turn(b []byte, k int) { b[k/8] ^= 1 << (k % 8) }

// turnPattern turns the bits of a pattern over, its lowest bit at the place k.
func turnPattern(b []byte, k int, pattern uint32) {
	for i := range 32 {
		if pattern>>i&1 == 1 {
			turn(b, k+i)
		}
	}
}

// told holds the sum of b with the turned bits against its sum without them, and turns them back.
func told(t *testing.T, what string, b []byte, sum uint32, turnBits func()) {
	t.Helper()
	turnBits()
	if crc.Sum(b) == sum {
		t.Errorf("%s: not told", what)
	}
	turnBits()
	if crc.Sum(b) != sum {
		t.Fatalf("%s: turned back, the sum is another", what)
	}
}

func TestP2_6NeighbouringBits(t *testing.T) {
	d := &dice{30}
	for _, length := range []int{4, 5, 11, 40} {
		b := d.bytes(length)
		sum := crc.Sum(b)
		for k := range 8*length - 31 {
			patterns := []uint32{1, 1 << 31, 0xFFFFFFFF, 0x80000001, 0x82F63B78, 0x82F63B79, 0x05EC76F1, 0x8F6E37A1}
			for range 40 {
				patterns = append(patterns, max(1, d.word()))
			}
			for _, p := range patterns {
				told(t, "neighbouring bits", b, sum, func() { turnPattern(b, k, p) })
			}
		}
	}
}

// rank is how many of the words no xor of the others makes.
func rank(words []uint32) int {
	var heads [32]uint32
	count := 0
	for _, w := range words {
		for w != 0 && heads[bits.Len32(w)-1] != 0 {
			w ^= heads[bits.Len32(w)-1]
		}
		if w != 0 {
			heads[bits.Len32(w)-1] = w
			count++
		}
	}
	return count
}

// What each of 32 neighbouring bits changes in the sum is never the xor of what
// others of them change: so no pattern at all of these 32 goes untold.
func TestP2_6EveryPatternOfNeighbouringBits(t *testing.T) {
	b := (&dice{34}).bytes(40)
	sum := crc.Sum(b)
	for k := range 8*len(b) - 31 {
		var changes []uint32
		for i := range 32 {
			turn(b, k+i)
			changes = append(changes, crc.Sum(b)^sum)
			turn(b, k+i)
		}
		if got := rank(changes); got != 32 {
			t.Errorf("from bit %d on only %d of 32 bits are told from one another", k, got)
		}
	}
}

func TestP2_6OddNumberOfBits(t *testing.T) {
	d := &dice{31}
	for _, length := range []int{1, 2, 9, 200, 5000} {
		b := d.bytes(length)
		sum := crc.Sum(b)
		for range 300 {
			other := d.bytes(length)
			differ := 0
			for i := range b {
				differ += bits.OnesCount8(b[i] ^ other[i])
			}
			if differ%2 == 0 {
				turn(other, int(d.word()%uint32(8*length)))
			}
			if crc.Sum(other) == sum {
				t.Errorf("an odd number of bits in %d bytes is not told", length)
			}
		}
	}
}

func TestP2_6TwoBits(t *testing.T) {
	d := &dice{32}
	b := d.bytes(30)
	sum := crc.Sum(b)
	for i := range 8 * len(b) {
		for j := range i {
			told(t, "two bits", b, sum, func() { turn(b, i); turn(b, j) })
		}
	}
	long := d.bytes(1 << 20)
	sum = crc.Sum(long)
	for range 20 {
		i, j := int(d.word()%(8<<20)), int(d.word()%(8<<20))
		if i != j {
			told(t, "two bits far from one another", long, sum, func() { turn(long, i); turn(long, j) })
		}
	}
}

// zeros is the sum of n bytes 0, joined from their halves.
func zeros(n int) uint32 {
	if n == 0 {
		return 0
	}
	half := zeros(n / 2)
	s := crc.Join(half, half, n/2)
	if n%2 == 1 {
		s = crc.Update(s, []byte{0})
	}
	return s
}

// framed is the sum of n bytes: x, then bytes 0, then y.
func framed(n int, x, y byte) uint32 {
	head := crc.Join(crc.Sum([]byte{x}), zeros(n-2), n-2)
	return crc.Update(head, []byte{y})
}

// The greatest lists are not made here: their sums are joined.
func TestP2_6TwoBitsOfTheGreatestLists(t *testing.T) {
	if short := make([]byte, 1001); framed(1001, 0, 0) != crc.Sum(short) {
		t.Fatal("the joined sum of bytes 0 is not their sum")
	}
	const n = 1<<28 - 1
	plain := framed(n, 0, 0)
	for i := range 8 {
		for j := range 8 {
			if framed(n, 1<<i, 1<<j) == plain {
				t.Errorf("bit %d of the first byte and bit %d of the last are not told", i, j)
			}
		}
	}
}

func TestP2_6ThreeLists(t *testing.T) {
	d := &dice{33}
	for _, length := range []int{0, 1, 2, 3, 4, 5, 31, 1000} {
		for range 20 {
			x, y, z := d.bytes(length), d.bytes(length), d.bytes(length)
			all := bytes.Clone(x)
			for i := range all {
				all[i] ^= y[i] ^ z[i]
			}
			if got, want := crc.Sum(all), crc.Sum(x)^crc.Sum(y)^crc.Sum(z); got != want {
				t.Errorf("three lists of %d bytes: %08X, want %08X", length, got, want)
			}
		}
	}
}
