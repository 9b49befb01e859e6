package frame_test

import (
	"bytes"
	"hash/crc32"
	"slices"
	"testing"

	"moot/api"
	"moot/frame"
)

// The model is the chapter once more, on whole bytes and by the library's sum.

func librarySum(b []byte) []byte {
	c := crc32.Checksum(b, crc32.MakeTable(crc32.Castagnoli))
	return []byte{byte(c % 256), byte(c / 256 % 256), byte(c / 65536 % 256), byte(c / 16777216)}
}

// sealOf is the frame of a payload that is not too long.
func sealOf(v int, payload []byte) []byte {
	b := []byte{0x4d, 0x54, byte(v)}
	switch n := len(payload); {
	case n < 128:
		b = append(b, byte(n))
	case n < 16384:
		b = append(b, byte(128+n%128), byte(n/128))
	default:
		b = append(b, byte(128+n%128), byte(128+n/128%128), byte(n/16384))
	}
	b = append(b, payload...)
	return append(b, librarySum(b)...)
}

// openOf is Open at a version that may be.
func openOf(v int, b []byte) ([]byte, int, api.Errno) {
	for i, fault := range []api.Errno{api.ErrMagic, api.ErrMagic, api.ErrOther} {
		if i == len(b) {
			return nil, 0, api.ErrShort
		}
		if b[i] != []byte{'M', 'T', byte(v)}[i] {
			return nil, 0, fault
		}
	}
	length, size, e := lengthOf(b[3:])
	if e != api.OK {
		return nil, 0, e
	}
	end := 3 + size + length
	if len(b) < end {
		return nil, 0, api.ErrShort
	}
	for i, x := range librarySum(b[:end]) {
		if end+i == len(b) {
			return nil, 0, api.ErrShort
		}
		if b[end+i] != x {
			return nil, 0, api.ErrSum
		}
	}
	return b[3+size : end], end + 4, api.OK
}

// lengthOf is a length and how many bytes it has.
func lengthOf(b []byte) (length, size int, e api.Errno) {
	for i, worth := range []int{1, 128, 16384} {
		if i == len(b) {
			return 0, 0, api.ErrShort
		}
		x := int(b[i])
		if i > 0 && x == 0 {
			return 0, 0, api.ErrForm
		}
		length += x % 128 * worth
		if length > topPayload {
			return 0, 0, api.ErrLarge
		}
		if x < 128 {
			return length, i + 1, api.OK
		}
	}
	return 0, 0, api.ErrLarge
}

// drainOf is Drain of the joined chunks, frame by frame.
func drainOf(v int, b []byte) ([][]byte, int, api.Errno) {
	var out [][]byte
	at := 0
	for at < len(b) {
		payload, size, e := openOf(v, b[at:])
		if e != api.OK {
			return out, at, e
		}
		out = append(out, payload)
		at += size
	}
	return out, at, api.OK
}

// modelStream keeps every byte and asks openOf anew at each.
type modelStream struct {
	v     int
	all   []byte
	start int
	waits bool
	fault api.Errno
}

func (m *modelStream) feed(chunk []byte) int {
	for i, x := range chunk {
		if m.waits || m.fault != api.OK {
			return i
		}
		m.all = append(m.all, x)
		switch _, _, e := openOf(m.v, m.all[m.start:]); e {
		case api.OK:
			m.waits = true
		case api.ErrShort:
		default:
			m.fault = e
		}
	}
	return len(chunk)
}

func (m *modelStream) take() ([]byte, bool) {
	if !m.waits {
		return nil, false
	}
	payload, size, _ := openOf(m.v, m.all[m.start:])
	m.waits = false
	m.start += size
	return payload, true
}

func (m *modelStream) expect(v int) api.Errno {
	if v != 0 && v != 1 && v != 2 {
		return api.ErrVersion
	}
	if m.fault != api.OK {
		return m.fault
	}
	if m.waits || m.start < len(m.all) {
		return api.ErrMid
	}
	m.v = v
	return api.OK
}

func (m *modelStream) state() (api.Errno, int, int) {
	if m.fault != api.OK {
		return m.fault, m.start, 0
	}
	return api.OK, m.start, len(m.all) - m.start
}

// agrees asks Open of the program and of the model.
func agrees(t *testing.T, v int, b []byte) {
	t.Helper()
	payload, size, e := openOf(v, b)
	if e != api.OK {
		refuses(t, v, b, e)
	} else {
		opens(t, v, b, payload, size)
	}
}

// Every short string over telling bytes, behind a beginning that is as it should be.
func TestP7_4ShortStrings(t *testing.T) {
	telling := []byte{0, 1, 2, 3, 0x40, 0x4d, 0x54, 0x7f, 0x80, 0xff}
	for _, begin := range []string{"", "4D 54", "4D 54 01", "4D 54 01 80", "4D 54 01 FF 80", "4D 54 02 81 81"} {
		all := [][]byte{raw(begin)}
		for range 4 {
			var longer [][]byte
			for _, b := range all {
				agrees(t, 1, b)
				for _, x := range telling {
					longer = append(longer, join(b, []byte{x}))
				}
			}
			all = longer
		}
	}
}

// Frames with some bytes changed, left out, put in or cut off.
func TestP7_4SpoiltFrames(t *testing.T) {
	d := dice(74)
	for range 20000 {
		b := sealOf(d.below(3), d.bytes(pick(&d, []int{0, 1, 2, 5, 127, 128, 130, d.below(300)})))
		for range d.below(3) {
			at := d.below(len(b))
			switch d.below(4) {
			case 0:
				b[at] = byte(d.below(256))
			case 1:
				b[at] ^= 1 << d.below(8)
			case 2:
				b = slices.Insert(b, at, byte(d.below(256)))
			case 3:
				b = slices.Delete(b, at, at+1)
			}
		}
		agrees(t, d.below(3), b[:len(b)-d.below(2)*d.below(len(b))])
	}
}

// flow is frames one behind the other, mostly of one version, now and then spoilt.
func flow(d *dice, v, frames int) []byte {
	var b []byte
	for range frames {
		f := sealOf(v, d.bytes(pick(d, []int{0, 1, 3, 127, 128, d.below(40)})))
		switch d.below(40) {
		case 0:
			f[d.below(len(f))] ^= 1 << d.below(8)
		case 1:
			f[2] = byte(d.below(3))
		case 2:
			f = f[:d.below(len(f))]
		}
		b = append(b, f...)
	}
	return b
}

func TestP7_10Flows(t *testing.T) {
	d := dice(710)
	for range 3000 {
		v := d.below(3)
		b := flow(&d, v, d.below(8))
		payloads, place, e := drainOf(v, b)
		drains(t, v, [][]byte{b}, payloads, place, e)
		drains(t, v, d.cut(b, pick(&d, []int{1, 2, 9, 60})), payloads, place, e)
	}
}

// Calls in any order, each answer and each state held against the model's.
func TestP7_6Walks(t *testing.T) {
	d := dice(76)
	for range 1500 {
		v := d.below(3)
		s, m := newStream(t, v), &modelStream{v: v}
		b := flow(&d, v, 6)
		for range 60 {
			walk(t, &d, s, m, &b)
			fault, place, held := m.state()
			stands(t, s, fault, place, held)
			if t.Failed() {
				t.FailNow()
			}
		}
	}
}

// walk makes one call; what Feed takes is gone from b.
func walk(t *testing.T, d *dice, s *frame.Stream, m *modelStream, b *[]byte) {
	t.Helper()
	switch d.below(8) {
	case 0:
		v := d.below(5) - 1
		expects(t, s, v, m.expect(v))
		if d.below(3) > 0 && m.fault == api.OK && !m.waits && m.start == len(m.all) {
			*b = flow(d, m.v, 3)
		}
	case 1, 2, 3:
		p, ok := s.Take()
		if q, has := m.take(); !bytes.Equal(p, q) || ok != has {
			t.Errorf("Take() = %.20x, %v, want %.20x, %v", p, ok, q, has)
		}
	default:
		chunk := (*b)[:d.below(len(*b)+1)]
		if d.below(2) == 0 {
			chunk = chunk[:min(len(chunk), d.below(12))]
		}
		size := m.feed(chunk)
		feeds(t, s, chunk, size)
		*b = (*b)[size:]
	}
}
