package frame_test

import (
	"testing"

	"moot/api"
	"moot/frame"
)

// list is the texts as payloads.
func list(texts ...string) [][]byte {
	var out [][]byte
	for _, s := range texts {
		out = append(out, []byte(s))
	}
	return out
}

func TestP7_10Examples(t *testing.T) {
	a, empty := sealOf(1, []byte("a")), sealOf(1, nil)
	drains(t, 1, append(singles(a), []byte{0x4d}), list("a"), 9, api.ErrShort)
	drains(t, 1, [][]byte{a, empty, raw("4D 4D")}, list("a", ""), 17, api.ErrMagic)
	drains(t, 1, [][]byte{join(a, empty, raw("4D 4D"))}, list("a", ""), 17, api.ErrMagic)
}

func TestP7_10NilAndEmpty(t *testing.T) {
	for _, v := range versions() {
		for _, chunks := range [][][]byte{nil, {}, {nil}, {{}}, {nil, {}, nil}} {
			drains(t, v, chunks, nil, 0, api.OK)
		}
		b := sealOf(v, []byte("abc"))
		for cut := range len(b) + 1 {
			drains(t, v, [][]byte{nil, b[:cut], {}, nil, b[cut:], {}}, list("abc"), 11, api.OK)
			drains(t, v, [][]byte{{}, b, nil, b[:cut], nil}, list("abc", "abc")[:1+cut/11], 11+11*(cut/11), map[bool]api.Errno{true: api.ErrShort}[cut%11 > 0])
		}
	}
}

// Frames cut anywhere.
func TestP7_10Cuts(t *testing.T) {
	for _, v := range versions() {
		b := join(sealOf(v, []byte("abc")), sealOf(v, nil), sealOf(v, []byte("x")))
		want := list("abc", "", "x")
		for i := range len(b) + 1 {
			for j := i; j <= len(b); j++ {
				drains(t, v, [][]byte{b[:i], b[i:j], b[j:]}, want, 28, api.OK)
			}
		}
		drains(t, v, singles(b), want, 28, api.OK)
		drains(t, v, [][]byte{b}, want, 28, api.OK)
	}
}

func TestP7_10ManyFrames(t *testing.T) {
	d := dice(7101)
	var b []byte
	var want [][]byte
	for n := range 1000 {
		want = append(want, text(n%200))
		b = append(b, sealOf(2, text(n%200))...)
	}
	drains(t, 2, [][]byte{b}, want, len(b), api.OK)
	drains(t, 2, singles(b), want, len(b), api.OK)
	drains(t, 2, d.cut(b, 500), want, len(b), api.OK)
}

func TestP7_10LongFrames(t *testing.T) {
	d := dice(7102)
	for _, n := range lengths() {
		b := join(sealOf(1, text(n)), sealOf(1, []byte("x")))
		want := [][]byte{text(n), []byte("x")}
		drains(t, 1, [][]byte{b}, want, len(b), api.OK)
		drains(t, 1, d.cut(b, 70000), want, len(b), api.OK)
		drains(t, 1, [][]byte{b[:len(b)-1]}, want[:1], len(b)-9, api.ErrShort)
		drains(t, 1, [][]byte{b[:len(b)-10]}, nil, 0, api.ErrShort)
	}
}

// A last frame that is not whole, ended behind each of its bytes.
func TestP7_10LastNotWhole(t *testing.T) {
	for _, v := range versions() {
		for _, p := range payloads() {
			a, b := sealOf(v, []byte("a")), sealOf(v, p)
			for n := 1; n < len(b); n++ {
				drains(t, v, [][]byte{b[:n]}, nil, 0, api.ErrShort)
				drains(t, v, [][]byte{a, a, b[:n]}, list("a", "a"), 18, api.ErrShort)
				drains(t, v, [][]byte{join(a, b[:n]), nil}, list("a"), 9, api.ErrShort)
			}
			drains(t, v, [][]byte{a, b}, [][]byte{[]byte("a"), p}, 9+len(b), api.OK)
		}
	}
}

// A byte amiss in the first or in a later frame, with bytes behind it in the same chunk and in others.
func TestP7_10Broken(t *testing.T) {
	for _, v := range versions() {
		a := sealOf(v, []byte("a"))
		for fault, b := range amiss(v) {
			for ahead := range 4 {
				var chunks, want [][]byte
				for range ahead {
					chunks, want = append(chunks, a), append(want, []byte("a"))
				}
				for _, tail := range [][]byte{nil, {0x4d}, a, text(99)} {
					whole := join(join(chunks...), b, tail)
					drains(t, v, [][]byte{whole}, want, 9*ahead, fault)
					drains(t, v, [][]byte{whole, a, nil, a}, want, 9*ahead, fault)
					drains(t, v, singles(whole), want, 9*ahead, fault)
					drains(t, v, append(singles(whole), a, a[:3]), want, 9*ahead, fault)
				}
			}
		}
	}
}

func TestP7_10OtherVersions(t *testing.T) {
	for _, v := range versions() {
		for _, w := range versions() {
			if v != w {
				a, b := sealOf(v, []byte("a")), sealOf(w, []byte("a"))
				drains(t, v, [][]byte{a, b, a}, list("a"), 9, api.ErrOther)
			}
		}
	}
}

func TestP7_10NoVersions(t *testing.T) {
	for _, v := range noVersions() {
		for _, chunks := range [][][]byte{nil, {nil}, {sealOf(0, nil)}, {sealOf(1, []byte("a")), {0x4d}}, {{0, 0}}, {sealOf(v&0xff, []byte("a"))}} {
			drains(t, v, chunks, nil, 0, api.ErrVersion)
		}
	}
}

// What Drain tells is what a stream tells that is fed and asked by hand.
func TestP7_10AsAStream(t *testing.T) {
	d := dice(7103)
	for range 1000 {
		v := d.below(3)
		chunks := d.cut(flow(&d, v, d.below(6)), 40)
		s := newStream(t, v)
		var want [][]byte
		for _, chunk := range chunks {
			for len(chunk) > 0 {
				size := s.Feed(chunk)
				if p, ok := s.Take(); ok {
					want = append(want, p)
				}
				if size == 0 {
					break
				}
				chunk = chunk[size:]
			}
		}
		fault, place, held := s.State()
		if fault == api.OK && held > 0 {
			fault = api.ErrShort
		}
		drains(t, v, chunks, want, place, fault)
	}
}

// What a call tells hangs on no call before it.
func TestP7_10CallsDoNotSeeOneAnother(t *testing.T) {
	for _, v := range versions() {
		b := sealOf(v, []byte("abc"))
		for _, other := range [][]byte{nil, {0x4d}, {0}, b[:9], raw("4D 54 01 80 00"), text(20)} {
			frame.Drain(v, [][]byte{other})
			frame.Open(v, other)
			frame.Seal(2-v, other)
			drains(t, v, [][]byte{b}, list("abc"), 11, api.OK)
			opens(t, v, b, []byte("abc"), 11)
			seals(t, v, []byte("abc"), b)
		}
	}
}
