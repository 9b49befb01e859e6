package crc

import "math/bits"

const (
	// polynomial is Castagnoli's. A register's highest bit is worth x to the 0,
	// its lowest x to the 31, so that a step is: times x, modulo the polynomial.
	polynomial = 0x82F63B78
	one        = 0x80000000
	// around is the number of steps behind which every register is what it was.
	around = 1<<31 - 1
)

// halves tells of each half of a byte the register that begins as it and takes four steps.
var halves = [16]uint32{
	0x00000000, 0x105EC76F, 0x20BD8EDE, 0x30E349B1,
	0x417B1DBC, 0x5125DAD3, 0x61C69362, 0x7198540D,
	0x82F63B78, 0x92A8FC17, 0xA24BB5A6, 0xB21572C9,
	0xC38D26C4, 0xD3D3E1AB, 0xE330A81A, 0xF36E6F75,
}

func takeByte(r uint32, x byte) uint32 {
	r ^= uint32(x)
	r = halves[r&15] ^ r>>4
	return halves[r&15] ^ r>>4
}

func step(r uint32) uint32 {
	if r&1 == 1 {
		return r>>1 ^ polynomial
	}
	return r >> 1
}

// back undoes n steps. The polynomial's highest bit is set, so a register's
// highest bit tells whether the step that led to it took the polynomial in.
func back(r uint32, n int) uint32 {
	for range n {
		if r&one == 0 {
			r <<= 1
		} else {
			r = (r^polynomial)<<1 | 1
		}
	}
	return r
}

// times is the product of two registers as polynomials: a taken as many steps on
// as each bit of b is worth, and all of these xored.
func times(a, b uint32) uint32 {
	var product uint32
	for range 32 {
		if b&one != 0 {
			product ^= a
		}
		b <<= 1
		a = step(a)
	}
	return product
}

// bytesOn is the register that the register one becomes by 8n steps. It squares
// its way through the bits of n, as n may be too great to walk.
func bytesOn(n int) uint32 {
	r := uint32(one)
	for i := bits.Len(uint(n)); i > 0; i-- {
		r = times(r, r)
		if n>>(i-1)&1 == 1 {
			r = takeByte(r, 0)
		}
	}
	return r
}
