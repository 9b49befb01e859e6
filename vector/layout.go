package vector

import (
	"moot/api"
	"moot/wire"
)

// entries holds a vector of any length; the places that the vector doesn't have are 0.
type entries [api.MaxN]int

func entriesOf(d []int) entries {
	var all entries
	copy(all[:], d)
	return all
}

// list is the vector of the first n entries.
func (all entries) list(n int) []int {
	out := make([]int, n)
	copy(out, all[:])
	return out
}

func packPlain(all entries, n int) []byte {
	var out []byte
	for i := range n {
		out = append(out, wire.PutUint(uint64(all[i]))...)
	}
	return out
}

func packTight(all entries, n int) []byte {
	var mask uint64
	var differences []byte
	before := 0
	for i := range n {
		if all[i] != before {
			mask |= 1 << i
			differences = append(differences, wire.PutInt(int64(all[i]-before))...)
		}
		before = all[i]
	}
	return append(wire.PutUint(mask), differences...)
}

// unpack reads n entries of version v: the entries, their bytes, the error.
func unpack(v, n int, b []byte) (entries, int, api.Errno) {
	if v == 1 {
		return unpackPlain(n, b)
	}
	return unpackTight(n, b)
}

func unpackPlain(n int, b []byte) (entries, int, api.Errno) {
	var all entries
	at := 0
	for i := range n {
		x, size, e := wire.GetUint(b[at:])
		if e != api.OK {
			return entries{}, 0, e
		}
		if x > api.MaxNum {
			return entries{}, 0, api.ErrEntry
		}
		all[i] = int(x)
		at += size
	}
	return all, at, api.OK
}

func unpackTight(n int, b []byte) (entries, int, api.Errno) {
	mask, at, e := wire.GetUint(b)
	if e != api.OK {
		return entries{}, 0, e
	}
	if mask >= 1<<n {
		return entries{}, 0, api.ErrMask
	}
	var all entries
	before := 0
	for i := range n {
		if mask>>i&1 == 1 {
			x, size, e := entryFrom(before, b[at:])
			if e != api.OK {
				return entries{}, 0, e
			}
			before = x
			at += size
		}
		all[i] = before
	}
	return all, at, api.OK
}

// entryFrom reads the difference at the start of b: the entry that it makes of the one before it, its bytes, the error.
func entryFrom(before int, b []byte) (int, int, api.Errno) {
	difference, size, e := wire.GetInt(b)
	if e != api.OK {
		return 0, 0, e
	}
	if difference == 0 {
		return 0, 0, api.ErrStill
	}
	// The sum might leave 64 bits, so the difference is held against the room below and above.
	if difference < -int64(before) || difference > api.MaxNum-int64(before) {
		return 0, 0, api.ErrEntry
	}
	return before + int(difference), size, api.OK
}
