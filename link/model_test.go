package link_test

import (
	"encoding/binary"
	"hash/crc32"
	"testing"

	"moot/api"
	"moot/msg"
)

// The model is the chapter once more, on all of the peer's bytes at once, by the library's sum and numbers.

// sealOf is the frame of a payload that is not too long.
func sealOf(v int, payload []byte) []byte {
	b := append([]byte{0x4d, 0x54, byte(v)}, numbers(uint64(len(payload)))...)
	b = append(b, payload...)
	return append(b, librarySum(b)...)
}

func librarySum(b []byte) []byte {
	return binary.LittleEndian.AppendUint32(nil, crc32.Checksum(b, crc32.MakeTable(crc32.Castagnoli)))
}

// openOf is the payload of the frame at the beginning of b and how many bytes the frame has; ErrShort, if more must come.
func openOf(v int, b []byte) ([]byte, int, api.Errno) {
	for i, fault := range []api.Errno{api.ErrMagic, api.ErrMagic, api.ErrOther} {
		if i == len(b) {
			return nil, 0, api.ErrShort
		}
		if b[i] != []byte{'M', 'T', byte(v)}[i] {
			return nil, 0, fault
		}
	}
	length, size, e := lengthOf(b[3:])
	if e != api.OK {
		return nil, 0, e
	}
	end := 3 + size + length
	if len(b) < end {
		return nil, 0, api.ErrShort
	}
	for i, x := range librarySum(b[:end]) {
		if end+i == len(b) {
			return nil, 0, api.ErrShort
		}
		if b[end+i] != x {
			return nil, 0, api.ErrSum
		}
	}
	return b[3+size : end], end + 4, api.OK
}

// lengthOf is a length and how many bytes it has.
func lengthOf(b []byte) (length, size int, e api.Errno) {
	for i, worth := range []int{1, 128, 16384} {
		if i == len(b) {
			return 0, 0, api.ErrShort
		}
		x := int(b[i])
		if i > 0 && x == 0 {
			return 0, 0, api.ErrForm
		}
		length += x % 128 * worth
		if length > topPayload {
			return 0, 0, api.ErrLarge
		}
		if x < 128 {
			return length, i + 1, api.OK
		}
	}
	return 0, 0, api.ErrLarge
}

// numberOf is a number at the beginning of b and what stands behind it.
func numberOf(b []byte) (uint64, []byte, api.Errno) {
	x, size := binary.Uvarint(b)
	switch {
	case size <= 0 && len(b) > 9: // the tenth byte is not the last one, or too great
		return 0, nil, api.ErrWide
	case size == 0:
		return 0, nil, api.ErrShort
	case size > 1 && b[size-1] == 0:
		return 0, nil, api.ErrForm
	}
	return x, b[size:], api.OK
}

// chooseOf is Choose by the words of P8.2.
func chooseOf(a, b int) int {
	if a&2 == 2 && b&2 == 2 {
		return 2
	}
	if a&1 == 1 && b&1 == 1 {
		return 1
	}
	return 0
}

// end is what an end was made with.
type end struct{ id, n, peer, mask int }

// greet is the version that a hello's payload settles on, or what is amiss with it.
func (x end) greet(payload []byte) (int, api.Errno) {
	var said [3]uint64
	var e api.Errno
	for i := range said {
		said[i], payload, e = numberOf(payload)
		if e != api.OK {
			return 0, e
		}
	}
	if said[1] != uint64(x.n) {
		return 0, api.ErrLinkSize
	}
	if said[0] != uint64(x.peer) {
		return 0, api.ErrLinkPeer
	}
	v := chooseOf(x.mask, int(said[2]%4))
	if v == 0 {
		return 0, api.ErrLinkCommon
	}
	if len(payload) > 0 {
		return 0, api.ErrLinkRest
	}
	return v, api.OK
}

// reads is all that the end makes of the peer's bytes.
func (x end) reads(b []byte) ([]api.Msg, api.LinkState) {
	var got []api.Msg
	s := api.LinkState{Peer: x.peer}
	for at := 0; at < len(b); {
		payload, size, e := openOf(s.Version, b[at:])
		if e == api.ErrShort {
			s.Held = len(b) - at
			break
		}
		var m api.Msg
		switch {
		case e != api.OK:
		case s.Phase == greeting:
			s.Version, e = x.greet(payload)
		default:
			m, e = msg.Decode(s.Version, x.n, payload)
		}
		if e != api.OK {
			s.Phase, s.Err, s.At = closed, e, at
			break
		}
		if s.Phase == settled {
			got = append(got, m)
		}
		s.Phase = settled
		at += size
	}
	return got, s
}

// holds feeds an end the chunks and asks it and the model at the end.
func (x end) holds(t *testing.T, chunks ...[]byte) {
	t.Helper()
	l := newLink(t, x.id, x.n, x.peer, x.mask)
	var got []api.Msg
	for _, chunk := range chunks {
		got = append(got, l.Feed(chunk)...)
	}
	want, s := x.reads(join(chunks...))
	if !same(got, want) {
		t.Errorf("%+v is fed %.60x: %s, want %s", x, chunks, short(got), short(want))
	}
	stands(t, l, s)
}

// flow is a hello and messages behind it, now and then spoilt.
func (d *dice) flow(x end, frames int) []byte {
	b := helloOf(x.peer, x.n, 1+d.below(3))
	v := max(1, chooseOf(x.mask, int(b[6])))
	for range frames {
		m := d.message(v, x.n)
		payload, _ := msg.Encode(v, x.n, m)
		b = append(b, d.spoilt(v, payload)...)
	}
	if d.below(8) == 0 {
		b[d.below(len(b))] ^= 1 << d.below(8)
	}
	return b[:len(b)-d.below(2)*d.below(len(b))/8]
}

// spoilt is the payload's frame, but now and then one of other bytes, of another version, or a part of it.
func (d *dice) spoilt(v int, payload []byte) []byte {
	switch d.below(40) {
	case 0:
		payload[d.below(len(payload))] ^= 1 << d.below(8)
	case 1:
		payload = payload[:d.below(len(payload))]
	case 2:
		payload = append(payload, byte(d.below(256)))
	case 3:
		v = d.below(3)
	case 4:
		f := sealOf(v, payload)
		return f[:d.below(len(f))]
	}
	return sealOf(v, payload)
}

// anyEnd is one that may be.
func (d *dice) anyEnd() end {
	n := 2 + d.below(6)
	id := d.below(n)
	return end{id, n, (id + 1 + d.below(n-1)) % n, 1 + d.below(3)}
}
