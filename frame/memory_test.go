package frame_test

import (
	"bytes"
	"slices"
	"testing"

	"moot/api"
	"moot/frame"
)

// room is bytes with much spare room, and the whole that they are cut out of.
func room(b []byte) (cut, whole []byte) {
	whole = join([]byte{0xee}, b, bytes.Repeat([]byte{0xee}, 50))
	return whole[1 : 1+len(b)], whole
}

// spoil writes x over a list and its spare room.
func spoil[T any](list []T, x T) {
	list = list[:cap(list)]
	for i := range list {
		list[i] = x
	}
}

// checkOwn writes every list full with a mark of its own, spare room and all: where two share memory a mark is lost.
func checkOwn(t *testing.T, lists [][]byte) {
	t.Helper()
	for i, l := range lists {
		spoil(l, byte(i))
	}
	for i, l := range lists {
		for _, x := range l[:cap(l)] {
			if x != byte(i) {
				t.Errorf("list %d shares memory with another", i)
				break
			}
		}
	}
}

// inputs are bytes for the calls that read, good and bad.
func inputs() [][]byte {
	out := [][]byte{nil, {}, {0x4d}, {0}, raw("4D 55 01"), raw("4D 54 01 80 00"), raw("4D 54 01 80 80 80"), text(300)}
	for _, v := range versions() {
		for _, p := range payloads() {
			b := sealOf(v, p)
			out = append(out, b, b[:len(b)-1], changed(b, len(b)-1, b[len(b)-1]+1), join(b, b), join(b, []byte{0}))
		}
	}
	return out
}

func TestP7_11SealLeavesThePayload(t *testing.T) {
	for _, p := range append(payloads(), text(16384), text(topPayload), text(topPayload+1)) {
		cut, whole := room(p)
		was := bytes.Clone(whole)
		for v := -1; v <= 3; v++ {
			b, _ := frame.Seal(v, cut)
			spoil(b, 0x11)
		}
		if !bytes.Equal(whole, was) {
			t.Errorf("Seal changed a payload of %d bytes or its spare room", len(p))
		}
	}
}

func TestP7_11FramesAreNewMemory(t *testing.T) {
	var lists [][]byte
	for _, v := range versions() {
		for _, p := range append(payloads(), text(16384)) {
			for range 2 {
				b, _ := frame.Seal(v, p)
				lists = append(lists, b)
			}
		}
	}
	checkOwn(t, lists)
	for _, v := range versions() {
		for _, p := range payloads() {
			seals(t, v, p, sealOf(v, p))
		}
	}
}

// A frame outlives its payload's change.
func TestP7_11SealKeepsNothing(t *testing.T) {
	for _, v := range versions() {
		for _, p := range payloads() {
			given := bytes.Clone(p)
			b, _ := frame.Seal(v, given)
			spoil(given, 0xee)
			if !bytes.Equal(b, sealOf(v, p)) {
				t.Errorf("the frame of %x became %x with its payload", p, b)
			}
		}
	}
}

func TestP7_11OpenLeavesTheBytes(t *testing.T) {
	for _, b := range inputs() {
		cut, whole := room(b)
		was := bytes.Clone(whole)
		for v := -1; v <= 3; v++ {
			p, _, _ := frame.Open(v, cut)
			spoil(p, 0x11)
		}
		if !bytes.Equal(whole, was) {
			t.Errorf("Open changed %.40x or its spare room, or told a piece of it", b)
		}
	}
}

func TestP7_11OpenedPayloadsAreNewMemory(t *testing.T) {
	var lists [][]byte
	for _, v := range versions() {
		for _, payload := range payloads() {
			b := sealOf(v, payload)
			for range 2 {
				p, _, _ := frame.Open(v, b)
				lists = append(lists, p)
			}
			p, _, _ := frame.Open(v, b)
			spoil(b, 0xee)
			if !bytes.Equal(p, payload) {
				t.Errorf("the payload %x became %x with its bytes", payload, p)
			}
		}
	}
	checkOwn(t, lists)
	for _, v := range versions() {
		for _, payload := range payloads() {
			opens(t, v, sealOf(v, payload), payload, len(sealOf(v, payload)))
		}
	}
}

// Spare room behind the bytes is none of them.
func TestP7_11SpareRoomIsNotRead(t *testing.T) {
	for _, v := range versions() {
		b := sealOf(v, []byte("abc"))
		for n := range b {
			refuses(t, v, b[:n:len(b)], api.ErrShort)
			drains(t, v, [][]byte{b[:n:len(b)]}, nil, 0, map[bool]api.Errno{true: api.ErrShort}[n > 0])
			s := newStream(t, v)
			feeds(t, s, b[:n:len(b)], n)
			stands(t, s, api.OK, 0, n)
		}
	}
}

// A chunk is changed as soon as it was fed, spare room and all; it was not changed by Feed.
func TestP7_11ChunksAreNotKept(t *testing.T) {
	d := dice(711)
	for range 300 {
		v, payload := d.below(3), d.bytes(d.below(300))
		s := newStream(t, v)
		for _, piece := range d.cut(sealOf(v, payload), 60) {
			cut, whole := room(piece)
			was := bytes.Clone(whole)
			feeds(t, s, cut, len(piece))
			if !bytes.Equal(whole, was) {
				t.Fatalf("Feed changed %x or its spare room", piece)
			}
			spoil(whole, 0x11)
		}
		takes(t, s, payload)
	}
}

// The chunk that a payload waits from is changed ahead of Take.
func TestP7_11WholeChunkIsNotKept(t *testing.T) {
	for _, v := range versions() {
		for _, payload := range append(payloads(), text(70000)) {
			s := newStream(t, v)
			b := sealOf(v, payload)
			feeds(t, s, b, len(b))
			spoil(b, 0xee)
			takes(t, s, payload)
		}
	}
}

// Feed leaves chunks be, also where it takes a part of them or nothing.
func TestP7_11FeedLeavesTheChunk(t *testing.T) {
	for _, v := range versions() {
		waits := newStream(t, v)
		feeds(t, waits, sealOf(v, nil), 8)
		for _, b := range inputs() {
			cut, whole := room(b)
			was := bytes.Clone(whole)
			for _, s := range []*frame.Stream{newStream(t, v), waits, broken(t, v, api.ErrSum)} {
				s.Feed(cut)
				if p, ok := s.Take(); ok {
					spoil(p, 0x11)
				}
			}
			if !bytes.Equal(whole, was) {
				t.Errorf("Feed changed %.40x or its spare room", b)
			}
		}
	}
}

// What a taken payload's holder writes shows in none that comes later, nor in those taken before.
func TestP7_11TakenPayloadsAreNewMemory(t *testing.T) {
	var lists [][]byte
	s := newStream(t, 1)
	for range 3 {
		for _, payload := range payloads() {
			b := sealOf(1, payload)
			feeds(t, s, b, len(b))
			p, _ := s.Take()
			if !bytes.Equal(p, payload) {
				t.Errorf("Take() = %x, want %x", p, payload)
			}
			spoil(p, 0xee)
			lists = append(lists, p)
			for _, x := range b {
				feeds(t, s, []byte{x}, 1)
			}
			p, _ = s.Take()
			if !bytes.Equal(p, payload) {
				t.Errorf("Take() = %x, want %x", p, payload)
			}
			lists = append(lists, p)
		}
	}
	checkOwn(t, lists)
}

func TestP7_11DrainLeavesTheChunks(t *testing.T) {
	for _, b := range inputs() {
		for v := -1; v <= 3; v++ {
			first, whole := room(b)
			second, rest := room(b[len(b)/2:])
			was, wasRest := bytes.Clone(whole), bytes.Clone(rest)
			chunks := [][]byte{first, nil, second, {0x4d}, {0x77}}[:3]
			l, _, _ := frame.Drain(v, chunks)
			for _, p := range l {
				spoil(p, 0x11)
			}
			spoil(l, []byte{0x22})
			if !bytes.Equal(whole, was) || !bytes.Equal(rest, wasRest) {
				t.Errorf("Drain(%d, ..) changed %.40x or its spare room", v, b)
			}
			if len(chunks[0]) != len(first) || chunks[1] != nil || len(chunks[2]) != len(second) || !slices.EqualFunc(chunks[3:5], list("\x4d", "\x77"), bytes.Equal) {
				t.Errorf("Drain(%d, ..) changed the list of chunks or its spare room", v)
			}
		}
	}
}

func TestP7_11DrainedPayloadsAreNewMemory(t *testing.T) {
	var lists [][]byte
	for _, v := range versions() {
		var b []byte
		for _, p := range payloads() {
			b = append(b, sealOf(v, p)...)
		}
		for range 2 {
			whole, _, _ := frame.Drain(v, [][]byte{b})
			single, _, _ := frame.Drain(v, singles(b))
			lists = append(append(lists, whole...), single...)
		}
		given := bytes.Clone(b)
		told, _, _ := frame.Drain(v, [][]byte{given[:100], given[100:]})
		spoil(given, 0xee)
		if !slices.EqualFunc(told, payloads(), bytes.Equal) {
			t.Errorf("payloads changed with their chunks")
		}
	}
	checkOwn(t, lists)
	for _, v := range versions() {
		drains(t, v, [][]byte{sealOf(v, []byte("abc"))}, list("abc"), 11, api.OK)
	}
}
