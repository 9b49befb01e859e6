package wire

import (
	"errors"

	"moot/api"
)

// What a cursor gives up with.
var (
	errShort  = errors.New("wire: the bytes end inside an item")
	errWide   = errors.New("wire: a number of more than 64 bits")
	errForm   = errors.New("wire: not the shortest form")
	errBig    = errors.New("wire: a number above what is allowed")
	errLength = errors.New("wire: a text's length outside what is allowed")
)

// cursor walks over bytes that it never changes. It gives up by panic with one
// of the errors above, wherever it stands then: who calls it puts the place right.
type cursor struct {
	data []byte
	at   int
}

func (c *cursor) left() int { return len(c.data) - c.at }

func (c *cursor) next() byte {
	if c.left() == 0 {
		panic(errShort)
	}
	b := c.data[c.at]
	c.at++
	return b
}

func (c *cursor) number() uint64 {
	var x uint64
	for i := range 9 {
		b := c.next()
		x |= uint64(b&0x7f) << (7 * i)
		if b >= 0x80 {
			continue
		}
		if b == 0 && i > 0 {
			panic(errForm)
		}
		return x
	}
	return x | c.tenth()<<63
}

// tenth reads a number's tenth byte: nine groups hold 63 bits, so just one bit is left for it.
func (c *cursor) tenth() uint64 {
	switch c.next() {
	case 0:
		panic(errForm)
	case 1:
		return 1
	}
	panic(errWide)
}

func (c *cursor) numberTo(most uint64) uint64 {
	x := c.number()
	if x > most {
		panic(errBig)
	}
	return x
}

func (c *cursor) signed() int64 { return unfold(c.number()) }

func (c *cursor) byteTo(most int) int {
	b := int(c.next())
	if b > most {
		panic(errBig)
	}
	return b
}

func (c *cursor) text(least, most int) string {
	length := c.number()
	if !lengthAllowed(length, least, most) {
		panic(errLength)
	}
	if length > uint64(c.left()) {
		panic(errShort)
	}
	begin := c.at
	c.at += int(length)
	return string(c.data[begin:c.at])
}

// lengthAllowed compares as uint64, for a length may be above every int; so bounds below 0 are told apart first.
func lengthAllowed(length uint64, least, most int) bool {
	if most < 0 || length > uint64(most) {
		return false
	}
	return least <= 0 || length >= uint64(least)
}

// fold lays the signed numbers onto the others, the small ones of both signs first: 0, -1, 1, -2, 2 ..
func fold(x int64) uint64 { return uint64(x)<<1 ^ uint64(x>>63) }

func unfold(u uint64) int64 { return int64(u>>1) ^ -int64(u&1) }

// errnoOf tells the number of what a cursor gave up with. Nothing but the five
// comes here; were it ever otherwise, ErrArg keeps it from passing for OK.
func errnoOf(given any) api.Errno {
	if err, ok := given.(error); ok {
		switch {
		case errors.Is(err, errShort):
			return api.ErrShort
		case errors.Is(err, errWide):
			return api.ErrWide
		case errors.Is(err, errForm):
			return api.ErrForm
		case errors.Is(err, errBig):
			return api.ErrBig
		case errors.Is(err, errLength):
			return api.ErrLength
		}
	}
	return api.ErrArg
}
