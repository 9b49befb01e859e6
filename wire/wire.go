// Package wire: canonical varints, zigzag numbers, texts, and a reader that stays broken once it is broken: see ../shared/doc/01-wire.md.
package wire

import (
	"bytes"

	"moot/api"
)

// PutUint writes a number as a varint.
func PutUint(x uint64) []byte {
	var b []byte
	for x >= 0x80 {
		b = append(b, byte(x)|0x80)
		x >>= 7
	}
	return append(b, byte(x))
}

// GetUint reads the varint at the start of b: the number, its bytes, the error.
func GetUint(b []byte) (x uint64, size int, e api.Errno) {
	defer func() {
		if given := recover(); given != nil {
			x, size, e = 0, 0, errnoOf(given)
		}
	}()
	c := cursor{data: b}
	x = c.number()
	return x, c.at, api.OK
}

// PutInt writes a number as a zigzag varint.
func PutInt(x int64) []byte { return PutUint(fold(x)) }

// GetInt reads the zigzag varint at the start of b.
func GetInt(b []byte) (x int64, size int, e api.Errno) {
	defer func() {
		if given := recover(); given != nil {
			x, size, e = 0, 0, errnoOf(given)
		}
	}()
	c := cursor{data: b}
	x = c.signed()
	return x, c.at, api.OK
}

// PutText writes a text with its length ahead of it.
func PutText(s string) []byte { return append(PutUint(uint64(len(s))), s...) }

// Reader reads bytes from the left; it stays broken once it is broken.
type Reader struct {
	cursor cursor
	fault  api.Errno
}

// NewReader makes a reader of a copy of b.
func NewReader(b []byte) *Reader { return &Reader{cursor: cursor{data: bytes.Clone(b)}} }

// giveUp breaks the reader at the item that began at start: the cursor may stand in the midst of it.
func (r *Reader) giveUp(start int, given any) {
	r.cursor.at = start
	r.fault = errnoOf(given)
}

// Uint reads a varint of at most that number.
func (r *Reader) Uint(most uint64) (x uint64) {
	if r.fault != api.OK {
		return 0
	}
	start := r.cursor.at
	defer func() {
		if given := recover(); given != nil {
			x = 0
			r.giveUp(start, given)
		}
	}()
	return r.cursor.numberTo(most)
}

// Int reads a zigzag varint.
func (r *Reader) Int() (x int64) {
	if r.fault != api.OK {
		return 0
	}
	start := r.cursor.at
	defer func() {
		if given := recover(); given != nil {
			x = 0
			r.giveUp(start, given)
		}
	}()
	return r.cursor.signed()
}

// Byte reads one byte of at most that number.
func (r *Reader) Byte(most int) (x int) {
	if r.fault != api.OK {
		return 0
	}
	start := r.cursor.at
	defer func() {
		if given := recover(); given != nil {
			x = 0
			r.giveUp(start, given)
		}
	}()
	return r.cursor.byteTo(most)
}

// Text reads a text whose length lies from least to most.
func (r *Reader) Text(least, most int) (s string) {
	if r.fault != api.OK {
		return ""
	}
	start := r.cursor.at
	defer func() {
		if given := recover(); given != nil {
			s = ""
			r.giveUp(start, given)
		}
	}()
	return r.cursor.text(least, most)
}

// Err tells the fault and its place; without one OK and the reader's place.
func (r *Reader) Err() (api.Errno, int) { return r.fault, r.cursor.at }

// Left tells how many bytes are unread.
func (r *Reader) Left() int { return r.cursor.left() }

// Close tells the fault, or ErrRest if bytes are left, or OK.
func (r *Reader) Close() api.Errno {
	if r.fault == api.OK && r.Left() > 0 {
		r.fault = api.ErrRest
	}
	return r.fault
}
