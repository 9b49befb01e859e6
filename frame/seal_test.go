package frame_test

import (
	"bytes"
	"testing"

	"moot/api"
	"moot/frame"
)

func seals(t *testing.T, v int, payload, want []byte) {
	t.Helper()
	if b, e := frame.Seal(v, payload); !bytes.Equal(b, want) || e != api.OK {
		t.Errorf("Seal(%d, %.20x, %d bytes) = %.20x (%d bytes), %d, want %.20x (%d bytes)", v, payload, len(payload), b, len(b), e, want, len(want))
	}
}

func sealsNone(t *testing.T, v int, payload []byte, fault api.Errno) {
	t.Helper()
	if b, e := frame.Seal(v, payload); len(b) != 0 || e != fault {
		t.Errorf("Seal(%d, %d bytes) = %.20x, %d, want the error %d", v, len(payload), b, e, fault)
	}
}

func TestP7_1Examples(t *testing.T) {
	for _, c := range []struct {
		v             int
		payload, want string
	}{
		{0, "", "4D 54 00 00 C4 B5 FB 9A"},
		{1, "", "4D 54 01 00 B3 2D 59 89"},
		{2, "", "4D 54 02 00 2A 85 BE BD"},
		{1, "a", "4D 54 01 01 61 57 03 BE 73"},
		{1, "abc", "4D 54 01 03 61 62 63 A7 5F A6 32"},
		{2, "abc", "4D 54 02 03 61 62 63 53 EF 95 7A"},
	} {
		seals(t, c.v, []byte(c.payload), raw(c.want))
	}
}

func TestP7_1Layout(t *testing.T) {
	for _, v := range versions() {
		for _, n := range lengths() {
			seals(t, v, text(n), sealOf(v, text(n)))
			seals(t, v, make([]byte, n), sealOf(v, make([]byte, n)))
		}
		for n := range 300 {
			seals(t, v, text(n), sealOf(v, text(n)))
		}
		for _, p := range payloads() {
			seals(t, v, p, sealOf(v, p))
		}
	}
}

// The payload's length at each edge of its bytes.
func TestP7_1Heads(t *testing.T) {
	for _, c := range []struct {
		n    int
		head string
	}{
		{0, "4D 54 02 00"}, {1, "4D 54 02 01"}, {127, "4D 54 02 7F"}, {128, "4D 54 02 80 01"}, {129, "4D 54 02 81 01"},
		{16383, "4D 54 02 FF 7F"}, {16384, "4D 54 02 80 80 01"}, {1<<20 - 1, "4D 54 02 FF FF 3F"}, {1 << 20, "4D 54 02 80 80 40"},
	} {
		b, _ := frame.Seal(2, text(c.n))
		if !bytes.HasPrefix(b, raw(c.head)) {
			t.Errorf("Seal of %d bytes begins with %.8x, want %s", c.n, b, c.head)
		}
	}
}

func TestP7_1Sizes(t *testing.T) {
	for n, size := range map[int]int{0: 8, 1: 9, 127: 135, 128: 137, 16383: 16392, 16384: 16394, 1 << 20: 1<<20 + 10} {
		for _, v := range versions() {
			if b, _ := frame.Seal(v, text(n)); len(b) != size {
				t.Errorf("Seal(%d, %d bytes) has %d bytes, want %d", v, n, len(b), size)
			}
		}
	}
}

// The sum has each of the bytes ahead of it in it.
func TestP7_1SumIsOfAllBytes(t *testing.T) {
	b, _ := frame.Seal(1, text(200))
	for at := range len(b) - 4 {
		other := changed(b, at, b[at]^1)
		if bytes.Equal(librarySum(other[:len(b)-4]), b[len(b)-4:]) {
			t.Errorf("the sum does not hang on byte %d", at)
		}
	}
	if !bytes.Equal(librarySum(b[:len(b)-4]), b[len(b)-4:]) {
		t.Errorf("the sum of %x.. is not the one of the bytes ahead of it", b[:9])
	}
}

func TestP7_2NilIsEmpty(t *testing.T) {
	for _, v := range versions() {
		want := sealOf(v, nil)
		seals(t, v, nil, want)
		seals(t, v, []byte{}, want)
		seals(t, v, text(9)[4:4], want)
	}
}

func TestP7_2Versions(t *testing.T) {
	for _, v := range noVersions() {
		for _, p := range payloads() {
			sealsNone(t, v, p, api.ErrVersion)
		}
	}
}

func TestP7_2Large(t *testing.T) {
	for _, v := range versions() {
		for _, n := range []int{topPayload + 1, topPayload + 2, 2*topPayload - 1, 2 * topPayload, 2*topPayload + 1, 1 << 24} {
			sealsNone(t, v, make([]byte, n), api.ErrLarge)
		}
		seals(t, v, text(topPayload), sealOf(v, text(topPayload)))
	}
}

// The version is looked at first.
func TestP7_2Order(t *testing.T) {
	for _, v := range noVersions() {
		sealsNone(t, v, make([]byte, topPayload+1), api.ErrVersion)
	}
}
