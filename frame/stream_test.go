package frame_test

import (
	"slices"
	"testing"

	"moot/api"
	"moot/frame"
)

// broken is a stream that a byte amiss has broken with that error, at place 9 behind a frame of its version.
func broken(t *testing.T, v int, fault api.Errno) *frame.Stream {
	t.Helper()
	s := newStream(t, v)
	feeds(t, s, sealOf(v, []byte("a")), 9)
	takes(t, s, []byte("a"))
	b := amiss(v)[fault]
	feeds(t, s, b, len(b))
	stands(t, s, fault, 9, 0)
	return s
}

// amiss is for each error bytes of which the last one brings it.
func amiss(v int) map[api.Errno][]byte {
	head := []byte{0x4d, 0x54, byte(v)}
	spoilt := sealOf(v, []byte("abc"))
	spoilt[10]++
	return map[api.Errno][]byte{
		api.ErrMagic: {0x4d, 0x4d},
		api.ErrOther: {0x4d, 0x54, byte(v + 1)},
		api.ErrForm:  join(head, []byte{0x80, 0}),
		api.ErrLarge: join(head, []byte{0x80, 0x80, 0x41}),
		api.ErrSum:   spoilt,
	}
}

func TestP7_5Versions(t *testing.T) {
	for _, v := range versions() {
		s := newStream(t, v)
		stands(t, s, api.OK, 0, 0)
		takesNone(t, s)
		b := sealOf(v, []byte("abc"))
		feeds(t, s, b, len(b))
		takes(t, s, []byte("abc"))
		for _, w := range versions() {
			if w != v {
				s = newStream(t, v)
				feeds(t, s, sealOf(w, []byte("abc")), 3)
				stands(t, s, api.ErrOther, 0, 0)
			}
		}
	}
	for _, v := range noVersions() {
		if frame.NewStream(v) != nil {
			t.Errorf("NewStream(%d) is one", v)
		}
	}
}

// Each byte amiss breaks a stream for good, with its error.
func TestP7_5BrokenForGood(t *testing.T) {
	for _, v := range versions() {
		for fault := range amiss(v) {
			s := broken(t, v, fault)
			for _, b := range [][]byte{nil, {}, {0x4d}, sealOf(v, []byte("abc")), text(300)} {
				feeds(t, s, b, 0)
				takesNone(t, s)
				for _, w := range versions() {
					expects(t, s, w, fault)
				}
				stands(t, s, fault, 9, 0)
			}
		}
	}
}

func TestP7_5StreamsDoNotSeeOneAnother(t *testing.T) {
	for _, v := range versions() {
		a, b, c := newStream(t, v), newStream(t, v), newStream(t, v)
		one, two := sealOf(v, []byte("one")), sealOf(v, []byte("two"))
		feeds(t, c, []byte{0}, 1)
		for i := range one {
			feeds(t, a, one[i:i+1], 1)
			feeds(t, b, two[i:i+1], 1)
		}
		takes(t, a, []byte("one"))
		takes(t, b, []byte("two"))
		stands(t, c, api.ErrMagic, 0, 0)
	}
}

// The two rows of calls among the chapter's examples.
func TestP7_6Examples(t *testing.T) {
	s := newStream(t, 1)
	feeds(t, s, join(sealOf(1, []byte("a")), []byte{0x4d}), 9)
	stands(t, s, api.OK, 0, 9)
	feeds(t, s, []byte{0x4d}, 0)
	takes(t, s, []byte("a"))
	feeds(t, s, []byte{0x4d}, 1)
	stands(t, s, api.OK, 9, 1)
	expects(t, s, 2, api.ErrMid)

	s = newStream(t, 1)
	feeds(t, s, raw("4D 4D 4D"), 2)
	stands(t, s, api.ErrMagic, 0, 0)
	feeds(t, s, []byte{0x4d}, 0)
	expects(t, s, 2, api.ErrMagic)
	expects(t, s, 7, api.ErrVersion)
}

// Nothing happens with no bytes, wherever in a frame the stream is.
func TestP7_6NilAndEmpty(t *testing.T) {
	for _, v := range versions() {
		s := newStream(t, v)
		for i, x := range sealOf(v, []byte("abc")) {
			feeds(t, s, nil, 0)
			feeds(t, s, []byte{}, 0)
			stands(t, s, api.OK, 0, i)
			feeds(t, s, []byte{x}, 1)
		}
		feeds(t, s, nil, 0)
		takes(t, s, []byte("abc"))
		feeds(t, s, nil, 0)
		stands(t, s, api.OK, 11, 0)
	}
}

// Two frames one behind the other, cut at every two places.
func TestP7_6Cuts(t *testing.T) {
	for _, v := range versions() {
		for _, payload := range [][]byte{nil, []byte("abc"), text(130)} {
			b := join(sealOf(v, payload), sealOf(v, []byte("xy")))
			for i := range len(b) + 1 {
				for j := i; j <= len(b); j += 1 + j%7*(len(b)/100) {
					cutFeed(t, v, [][]byte{b[:i], b[i:j], b[j:]}, [][]byte{payload, []byte("xy")})
				}
			}
		}
	}
}

// cutFeed feeds each chunk till nothing is left of it, and takes what waits.
func cutFeed(t *testing.T, v int, chunks, want [][]byte) {
	t.Helper()
	s, total := newStream(t, v), 0
	for _, chunk := range chunks {
		for len(chunk) > 0 && !t.Failed() {
			_, place, held := s.State()
			size := s.Feed(chunk)
			total += size
			if size == 0 {
				t.Fatalf("Feed(%.20x) took nothing, at %d with %d held", chunk, place, held)
			}
			chunk = chunk[size:]
			if e, place, held := s.State(); e != api.OK || place+held != total {
				t.Fatalf("State() = %d, %d, %d behind %d bytes", e, place, held, total)
			}
			if p, ok := s.Take(); ok {
				if len(want) == 0 || string(p) != string(want[0]) {
					t.Fatalf("Take() = %.20x, of %.60x to come", p, want)
				}
				want = want[1:]
			}
		}
	}
	if len(want) > 0 {
		t.Errorf("%.60x did not come", want)
	}
	stands(t, s, api.OK, total, 0)
}

// Of a chunk with several frames one is taken at a time.
func TestP7_6SeveralFrames(t *testing.T) {
	for _, v := range versions() {
		var b []byte
		for _, p := range payloads() {
			b = append(b, sealOf(v, p)...)
		}
		s, at := newStream(t, v), 0
		for _, p := range payloads() {
			size := len(sealOf(v, p))
			feeds(t, s, b[at:], size)
			feeds(t, s, b[at+size:], 0)
			stands(t, s, api.OK, at, size)
			takes(t, s, p)
			at += size
		}
		feeds(t, s, b[at:], 0)
		stands(t, s, api.OK, len(b), 0)
	}
}

// A byte amiss is taken too, and nothing behind it.
func TestP7_6ByteAmiss(t *testing.T) {
	for _, v := range versions() {
		for fault, b := range amiss(v) {
			for _, tail := range [][]byte{nil, {0x4d}, sealOf(v, []byte("abc")), text(50)} {
				s := newStream(t, v)
				feeds(t, s, join(b, tail), len(b))
				stands(t, s, fault, 0, 0)
				for cut := 1; cut < len(b); cut++ {
					s = newStream(t, v)
					feeds(t, s, b[:cut], cut)
					stands(t, s, api.OK, 0, cut)
					feeds(t, s, join(b[cut:], tail), len(b)-cut)
					stands(t, s, fault, 0, 0)
				}
			}
		}
	}
}

// At each place of a frame every byte: those amiss break the stream, the others go on.
func TestP7_6EveryByte(t *testing.T) {
	b := sealOf(1, []byte("ab"))
	for at := range b {
		for x := range 256 {
			s := newStream(t, 1)
			feeds(t, s, b[:at], at)
			feeds(t, s, []byte{byte(x)}, 1)
			switch _, _, e := openOf(1, join(b[:at], []byte{byte(x)})); e {
			case api.OK, api.ErrShort:
				stands(t, s, api.OK, 0, at+1)
			default:
				stands(t, s, e, 0, 0)
			}
		}
	}
}

func TestP7_6WhileAPayloadWaits(t *testing.T) {
	for _, v := range versions() {
		for _, p := range payloads() {
			s := newStream(t, v)
			b := sealOf(v, p)
			feeds(t, s, b, len(b))
			for _, more := range [][]byte{nil, {}, {0x4d}, {0}, b} {
				feeds(t, s, more, 0)
				stands(t, s, api.OK, 0, len(b))
			}
			takes(t, s, p)
			feeds(t, s, b, len(b))
			takes(t, s, p)
		}
	}
}

// Long frames, in chunks of many sizes.
func TestP7_6LongFrames(t *testing.T) {
	for _, n := range lengths() {
		v := n % 3
		b := join(sealOf(v, text(n)), sealOf(v, text(5)))
		want := [][]byte{text(n), text(5)}
		d := dice(n)
		cutFeed(t, v, [][]byte{b}, want)
		cutFeed(t, v, d.cut(b, 100000), want)
		cutFeed(t, v, singles(b), want)
	}
}

func TestP7_7NothingWaits(t *testing.T) {
	for _, v := range versions() {
		s := newStream(t, v)
		takesNone(t, s)
		for i, x := range sealOf(v, []byte("abc")) {
			takesNone(t, s)
			stands(t, s, api.OK, 0, i)
			feeds(t, s, []byte{x}, 1)
		}
		takes(t, s, []byte("abc"))
		takesNone(t, s)
		takesNone(t, s)
		stands(t, s, api.OK, 11, 0)
	}
}

func TestP7_7EmptyPayloadWaits(t *testing.T) {
	for _, v := range versions() {
		s := newStream(t, v)
		for i := range 3 {
			feeds(t, s, sealOf(v, nil), 8)
			stands(t, s, api.OK, 8*i, 8)
			takes(t, s, nil)
			takesNone(t, s)
			stands(t, s, api.OK, 8*i+8, 0)
		}
	}
}

// No payload is a former one's, whatever the lengths are.
func TestP7_7OneBehindTheOther(t *testing.T) {
	s := newStream(t, 2)
	for _, n := range []int{300, 5, 0, 128, 1, 16384, 2, 0, 0, 127} {
		b := sealOf(2, text(n))
		feeds(t, s, b, len(b))
		takes(t, s, text(n))
	}
}

func TestP7_8BetweenFrames(t *testing.T) {
	for _, v := range versions() {
		for _, w := range versions() {
			s := newStream(t, v)
			expects(t, s, w, api.OK)
			stands(t, s, api.OK, 0, 0)
			feeds(t, s, sealOf(w, []byte("abc")), 11)
			takes(t, s, []byte("abc"))
			expects(t, s, v, api.OK)
			feeds(t, s, sealOf(v, []byte("a")), 9)
			takes(t, s, []byte("a"))
			stands(t, s, api.OK, 20, 0)
			expects(t, s, w, api.OK)
			expects(t, s, (v+1)%3, api.OK)
			feeds(t, s, sealOf(v, []byte("a")), 3)
			stands(t, s, api.ErrOther, 20, 0)
		}
	}
}

// At each byte of a frame, and while its payload waits, nothing changes by Expect.
func TestP7_8InTheMiddle(t *testing.T) {
	for _, v := range versions() {
		for _, p := range [][]byte{nil, []byte("abc"), text(130)} {
			s := newStream(t, v)
			b := sealOf(v, p)
			for i, x := range b {
				feeds(t, s, []byte{x}, 1)
				for _, w := range versions() {
					expects(t, s, w, api.ErrMid)
				}
				stands(t, s, api.OK, 0, i+1)
			}
			takes(t, s, p)
			feeds(t, s, b, len(b))
			takes(t, s, p)
			expects(t, s, 2-v, api.OK)
		}
	}
}

// A version that may not be is told ahead of all else, and changes nothing.
func TestP7_8NoVersions(t *testing.T) {
	for _, v := range versions() {
		b := sealOf(v, []byte("abc"))
		for _, w := range noVersions() {
			s := newStream(t, v)
			for i, x := range b {
				expects(t, s, w, api.ErrVersion)
				stands(t, s, api.OK, 0, i)
				feeds(t, s, []byte{x}, 1)
			}
			expects(t, s, w, api.ErrVersion)
			takes(t, s, []byte("abc"))
			expects(t, s, w, api.ErrVersion)
			feeds(t, s, b, len(b))
			takes(t, s, []byte("abc"))
			for fault := range amiss(v) {
				s := broken(t, v, fault)
				expects(t, s, w, api.ErrVersion)
				expects(t, s, v, fault)
				stands(t, s, fault, 9, 0)
			}
		}
	}
}

// State at every byte of two frames one behind the other.
func TestP7_9EveryByte(t *testing.T) {
	for _, v := range versions() {
		for _, p := range payloads() {
			for _, q := range payloads() {
				s, place := newStream(t, v), 0
				for _, payload := range [][]byte{p, q} {
					stands(t, s, api.OK, place, 0)
					b := sealOf(v, payload)
					for i, x := range b {
						feeds(t, s, []byte{x}, 1)
						stands(t, s, api.OK, place, i+1)
					}
					stands(t, s, api.OK, place, len(b))
					takes(t, s, payload)
					place += len(b)
					stands(t, s, api.OK, place, 0)
				}
			}
		}
	}
}

// The place of a broken stream is the broken frame's first byte, whatever byte of it is amiss.
func TestP7_9Broken(t *testing.T) {
	for _, v := range versions() {
		frames := [][]byte{sealOf(v, []byte("a")), sealOf(v, nil), sealOf(v, text(200))}
		for ahead := range len(frames) + 1 {
			for fault, b := range amiss(v) {
				s, place := newStream(t, v), 0
				for _, f := range frames[:ahead] {
					feeds(t, s, f, len(f))
					s.Take()
					place += len(f)
				}
				feeds(t, s, b[:len(b)-1], len(b)-1)
				stands(t, s, api.OK, place, len(b)-1)
				feeds(t, s, b[len(b)-1:], 1)
				for range 3 {
					stands(t, s, fault, place, 0)
					s.Feed(frames[0])
					s.Take()
					s.Expect(0)
				}
			}
		}
	}
}

// The longest frame: held is never more than MaxPayload + 10.
func TestP7_9Longest(t *testing.T) {
	b := sealOf(2, text(topPayload))
	for _, sizes := range [][]int{{len(b)}, {1}, {6, 1}, {6, topPayload, 1}, {5, topPayload, 2}, {7, topPayload - 1, 3}, {65536}} {
		s, rest := newStream(t, 2), b
		for i := 0; len(rest) > 0; i++ {
			size := min(len(rest), sizes[i%len(sizes)])
			feeds(t, s, rest[:size], size)
			rest = rest[size:]
			if e, place, held := s.State(); e != api.OK || place != 0 || held != len(b)-len(rest) || held > topPayload+10 {
				t.Fatalf("State() = %d, %d, %d behind %d bytes", e, place, held, len(b)-len(rest))
			}
		}
		stands(t, s, api.OK, 0, topPayload+10)
		takes(t, s, text(topPayload))
		stands(t, s, api.OK, topPayload+10, 0)
	}
}

// Asking changes nothing.
func TestP7_9StateChangesNothing(t *testing.T) {
	s := newStream(t, 1)
	b := join(sealOf(1, []byte("abc")), raw("4D 54 01 80 00"))
	for at := 0; at < len(b); {
		for range 3 {
			first := stateOf(s)
			if again := stateOf(s); !slices.Equal(first, again) {
				t.Errorf("State() = %v, then %v", first, again)
			}
		}
		at += s.Feed(b[at : at+1])
		if at == 11 {
			takes(t, s, []byte("abc"))
		}
	}
	stands(t, s, api.ErrForm, 11, 0)
}

func stateOf(s *frame.Stream) []int {
	e, place, held := s.State()
	return []int{int(e), place, held}
}
