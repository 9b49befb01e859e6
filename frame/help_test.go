package frame_test

import (
	"bytes"
	"encoding/hex"
	"math"
	"slices"
	"strings"
	"testing"

	"moot/api"
	"moot/frame"
)

// topPayload is MaxPayload in the document's number.
const topPayload = 1 << 20

// dice throws the same numbers every time.
type dice uint64

func (d *dice) below(n int) int {
	*d = *d*6364136223846793005 + 1442695040888963407
	return int(uint64(*d>>33) % uint64(n))
}

func pick[T any](d *dice, from []T) T { return from[d.below(len(from))] }

func (d *dice) bytes(n int) []byte {
	out := make([]byte, n)
	for i := range out {
		out[i] = byte(d.below(256))
	}
	return out
}

// cut is b in pieces of 0 to most bytes, nil and empty ones among them.
func (d *dice) cut(b []byte, most int) [][]byte {
	var out [][]byte
	for len(b) > 0 {
		size := min(len(b), d.below(most+1))
		out = append(out, b[:size])
		if size == 0 {
			out = append(out, nil)
		}
		b = b[size:]
	}
	return out
}

// singles is b cut into single bytes.
func singles(b []byte) [][]byte { return slices.Collect(slices.Chunk(b, 1)) }

// text is n bytes that are not all alike.
func text(n int) []byte {
	b := make([]byte, n)
	for i := range b {
		b[i] = byte(i*i + i>>8 + 'a')
	}
	return b
}

func join(parts ...[]byte) []byte { return bytes.Join(parts, nil) }

// raw is what hex stands for.
func raw(s string) []byte {
	b, err := hex.DecodeString(strings.ReplaceAll(s, " ", ""))
	if err != nil {
		panic(err)
	}
	return b
}

// changed is b with the byte x at a place.
func changed(b []byte, at int, x byte) []byte {
	out := bytes.Clone(b)
	out[at] = x
	return out
}

func versions() []int { return []int{0, 1, 2} }

func noVersions() []int {
	return []int{-1, 3, -2, 4, 127, 128, 255, 256, 257, 258, -256, 1 << 16, 1<<32 + 1, math.MinInt, math.MinInt + 1, math.MaxInt}
}

// lengths are those around each edge of a payload's length.
func lengths() []int {
	return []int{0, 1, 2, 3, 126, 127, 128, 129, 255, 256, 16382, 16383, 16384, 16385, topPayload - 1, topPayload}
}

// payloads are short ones: empty, like a frame's beginning, a whole frame, of every byte.
func payloads() [][]byte {
	every := make([]byte, 256)
	for i := range every {
		every[i] = byte(i)
	}
	return [][]byte{nil, {}, []byte("a"), []byte("abc"), {0}, {0xff}, []byte("MT"), sealOf(1, []byte("MT")), text(127), text(128), every}
}

func opens(t *testing.T, v int, b, payload []byte, size int) {
	t.Helper()
	if p, k, e := frame.Open(v, b); !bytes.Equal(p, payload) || k != size || e != api.OK {
		t.Errorf("Open(%d, %.20x, %d bytes) = %.20x (%d bytes), %d, %d, want %.20x (%d bytes), %d", v, b, len(b), p, len(p), k, e, payload, len(payload), size)
	}
}

func refuses(t *testing.T, v int, b []byte, fault api.Errno) {
	t.Helper()
	if p, k, e := frame.Open(v, b); len(p) != 0 || k != 0 || e != fault {
		t.Errorf("Open(%d, %.20x, %d bytes) = %.20x (%d bytes), %d, %d, want the error %d", v, b, len(b), p, len(p), k, e, fault)
	}
}

func newStream(t *testing.T, v int) *frame.Stream {
	t.Helper()
	s := frame.NewStream(v)
	if s == nil {
		t.Fatalf("NewStream(%d) is none", v)
	}
	return s
}

func feeds(t *testing.T, s *frame.Stream, chunk []byte, want int) {
	t.Helper()
	if n := s.Feed(chunk); n != want {
		t.Errorf("Feed(%.20x, %d bytes) = %d, want %d", chunk, len(chunk), n, want)
	}
}

func stands(t *testing.T, s *frame.Stream, fault api.Errno, place, held int) {
	t.Helper()
	if e, p, h := s.State(); e != fault || p != place || h != held {
		t.Errorf("State() = %d, %d, %d, want %d, %d, %d", e, p, h, fault, place, held)
	}
}

func takes(t *testing.T, s *frame.Stream, payload []byte) {
	t.Helper()
	if p, ok := s.Take(); !bytes.Equal(p, payload) || !ok {
		t.Errorf("Take() = %.20x (%d bytes), %v, want %.20x (%d bytes)", p, len(p), ok, payload, len(payload))
	}
}

func takesNone(t *testing.T, s *frame.Stream) {
	t.Helper()
	if p, ok := s.Take(); p != nil || ok {
		t.Errorf("Take() = %.20x, %v with nothing waiting", p, ok)
	}
}

func expects(t *testing.T, s *frame.Stream, v int, want api.Errno) {
	t.Helper()
	if e := s.Expect(v); e != want {
		t.Errorf("Expect(%d) = %d, want %d", v, e, want)
	}
}

func drains(t *testing.T, v int, chunks, want [][]byte, place int, fault api.Errno) {
	t.Helper()
	l, at, e := frame.Drain(v, chunks)
	if !slices.EqualFunc(l, want, bytes.Equal) || at != place || e != fault {
		t.Errorf("Drain(%d, %.60x) = %.60x, %d, %d, want %.60x, %d, %d", v, chunks, l, at, e, want, place, fault)
	}
}
