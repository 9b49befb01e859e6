package frame_test

import (
	"testing"

	"moot/api"
	"moot/frame"
)

func TestP7_4Examples(t *testing.T) {
	abc := sealOf(1, []byte("abc"))
	opens(t, 1, join(abc, text(20)), []byte("abc"), 11)
	refuses(t, 1, sealOf(2, []byte("abc")), api.ErrOther)
	refuses(t, 1, changed(abc[:10], 9, abc[9]^1), api.ErrSum)
	for s, fault := range map[string]api.Errno{
		"4D": api.ErrShort, "": api.ErrShort, "4D 54 01 80": api.ErrShort, "4D 55": api.ErrMagic,
		"4D 54 01 80 00": api.ErrForm, "4D 54 01 80 80 00": api.ErrForm, "4D 54 01 80 80 40": api.ErrShort,
		"4D 54 01 81 80 40": api.ErrLarge, "4D 54 01 80 80 80": api.ErrLarge,
	} {
		refuses(t, 1, raw(s), fault)
	}
}

// judged asks of bytes that end behind the one in question, and of the same with more behind: where that one is amiss,
// what comes behind doesn't matter.
func judged(t *testing.T, v int, b []byte, amiss bool, fault api.Errno) {
	t.Helper()
	if !amiss {
		refuses(t, v, b, api.ErrShort)
		return
	}
	refuses(t, v, b, fault)
	for _, tail := range [][]byte{{0}, {0x4d}, sealOf(v, nil), text(300)} {
		refuses(t, v, join(b, tail), fault)
	}
}

func TestP7_3Magic(t *testing.T) {
	for _, v := range versions() {
		for x := range 256 {
			judged(t, v, []byte{byte(x)}, x != 0x4d, api.ErrMagic)
			judged(t, v, []byte{0x4d, byte(x)}, x != 0x54, api.ErrMagic)
			for at, right := range []int{0x4d, 0x54} {
				if x != right {
					refuses(t, v, changed(sealOf(v, []byte("abc")), at, byte(x)), api.ErrMagic)
				}
			}
		}
	}
}

func TestP7_3Version(t *testing.T) {
	for _, v := range versions() {
		for x := range 256 {
			judged(t, v, []byte{0x4d, 0x54, byte(x)}, x != v, api.ErrOther)
			if x != v {
				refuses(t, v, sealOf(x, []byte("abc")), api.ErrOther)
			}
		}
	}
}

func TestP7_3LengthFirst(t *testing.T) {
	for _, v := range versions() {
		for x := range 256 {
			judged(t, v, []byte{0x4d, 0x54, byte(v), byte(x)}, false, 0)
		}
	}
}

func TestP7_3LengthSecond(t *testing.T) {
	for _, v := range versions() {
		for _, first := range []byte{0x80, 0x81, 0xc0, 0xff} {
			for x := range 256 {
				judged(t, v, []byte{0x4d, 0x54, byte(v), first, byte(x)}, x == 0, api.ErrForm)
			}
		}
	}
}

func TestP7_3LengthThird(t *testing.T) {
	for _, v := range versions() {
		for _, first := range []int{0x80, 0x81, 0xc0, 0xff} {
			for _, second := range []int{0x80, 0x81, 0xc0, 0xff} {
				for x := range 256 {
					b := []byte{0x4d, 0x54, byte(v), byte(first), byte(second), byte(x)}
					number := first - 128 + 128*(second-128) + 16384*x
					fault := api.ErrLarge
					if x == 0 {
						fault = api.ErrForm
					}
					judged(t, v, b, x == 0 || x >= 0x80 || number > 1<<20, fault)
				}
			}
		}
	}
}

func TestP7_3LengthEdges(t *testing.T) {
	for s, fault := range map[string]api.Errno{
		"80 00": api.ErrForm, "FF 00": api.ErrForm, "80 7F": api.ErrShort, "80 80": api.ErrShort, "80 FF": api.ErrShort, "FF 01": api.ErrShort,
		"80 80 00": api.ErrForm, "FF FF 00": api.ErrForm, "80 80 01": api.ErrShort, "80 80 3F": api.ErrShort, "FF FF 3F": api.ErrShort,
		"80 80 40": api.ErrShort, "81 80 40": api.ErrLarge, "80 81 40": api.ErrLarge, "FF FF 40": api.ErrLarge, "80 80 41": api.ErrLarge,
		"80 80 7F": api.ErrLarge, "FF FF 7F": api.ErrLarge, "80 80 80": api.ErrLarge, "FF FF FF": api.ErrLarge, "80 80 80 01": api.ErrLarge,
	} {
		for _, v := range versions() {
			refuses(t, v, join([]byte{0x4d, 0x54, byte(v)}, raw(s)), fault)
		}
	}
}

func TestP7_3EveryPayloadByteGoesOn(t *testing.T) {
	for _, v := range versions() {
		for x := range 256 {
			judged(t, v, []byte{0x4d, 0x54, byte(v), 2, byte(x)}, false, 0)
			judged(t, v, []byte{0x4d, 0x54, byte(v), 2, 'a', byte(x)}, false, 0)
			opens(t, v, sealOf(v, []byte{byte(x)}), []byte{byte(x)}, 9)
		}
	}
}

// Each byte of the sum with every value, where the bytes end right behind it and where they don't.
func TestP7_3Sum(t *testing.T) {
	for _, v := range versions() {
		for _, payload := range [][]byte{nil, []byte("abc"), text(128)} {
			b := sealOf(v, payload)
			for at := len(b) - 4; at < len(b); at++ {
				for x := range 256 {
					if byte(x) == b[at] {
						continue
					}
					refuses(t, v, changed(b, at, byte(x))[:at+1], api.ErrSum)
					refuses(t, v, changed(b, at, byte(x)), api.ErrSum)
					refuses(t, v, join(changed(b, at, byte(x)), b), api.ErrSum)
				}
			}
		}
	}
}

// A changed payload shows in the sum, though each of its bytes goes on.
func TestP7_3SpoiltPayload(t *testing.T) {
	b := sealOf(2, text(300))
	for at := 5; at < 305; at++ {
		spoilt := changed(b, at, b[at]^0x10)
		refuses(t, 2, spoilt, api.ErrSum)
		refuses(t, 2, spoilt[:305], api.ErrShort)
	}
}

// A length that is another one, with all else as it was.
func TestP7_3SpoiltLength(t *testing.T) {
	b := sealOf(1, []byte("abcdef"))
	for x := range 256 {
		if x != 6 {
			agrees(t, 1, changed(b, 3, byte(x)))
			agrees(t, 1, join(changed(b, 3, byte(x)), text(400)))
		}
	}
}

// Of several bytes amiss the first one counts.
func TestP7_3FirstOfSeveral(t *testing.T) {
	for s, fault := range map[string]api.Errno{
		"4E 55 09 80 00": api.ErrMagic, "4D 55 09 80 00": api.ErrMagic, "4D 54 09 80 00": api.ErrOther, "4D 54 02 80 80 80": api.ErrOther,
		"4D 54 01 80 00 00": api.ErrForm, "4D 54 01 FF FF FF 00": api.ErrLarge, "4D 54 01 00 00": api.ErrSum,
	} {
		refuses(t, 1, raw(s), fault)
	}
}

func TestP7_4Beginnings(t *testing.T) {
	for _, v := range versions() {
		for _, payload := range payloads() {
			b := sealOf(v, payload)
			for n := range b {
				refuses(t, v, b[:n], api.ErrShort)
			}
			opens(t, v, b, payload, len(b))
		}
	}
}

func TestP7_4LongFrames(t *testing.T) {
	for _, v := range versions() {
		for _, n := range lengths() {
			b := sealOf(v, text(n))
			opens(t, v, b, text(n), len(b))
			opens(t, v, join(b, []byte("M")), text(n), len(b))
			for _, less := range []int{1, 2, 3, 4, 5} {
				refuses(t, v, b[:len(b)-less], api.ErrShort)
			}
			refuses(t, v, changed(b, len(b)-1, b[len(b)-1]+1), api.ErrSum)
		}
	}
}

func TestP7_4NilAndEmpty(t *testing.T) {
	for _, v := range versions() {
		refuses(t, v, nil, api.ErrShort)
		refuses(t, v, []byte{}, api.ErrShort)
		refuses(t, v, sealOf(v, nil)[:0], api.ErrShort)
	}
}

// What stands behind a frame doesn't matter.
func TestP7_4Behind(t *testing.T) {
	for _, v := range versions() {
		for _, payload := range payloads() {
			b := sealOf(v, payload)
			for x := range 256 {
				opens(t, v, join(b, []byte{byte(x)}), payload, len(b))
			}
			for _, tail := range [][]byte{b, sealOf(2-v, payload), text(1000), b[:5], raw("4D 55"), raw("00 00 00 00 00")} {
				opens(t, v, join(b, tail), payload, len(b))
			}
		}
	}
}

func TestP7_4OtherVersions(t *testing.T) {
	for _, v := range versions() {
		for _, w := range versions() {
			for _, payload := range payloads() {
				b := sealOf(w, payload)
				if v == w {
					opens(t, v, b, payload, len(b))
				} else {
					refuses(t, v, b, api.ErrOther)
				}
			}
		}
	}
}

func TestP7_4NoVersions(t *testing.T) {
	for _, v := range noVersions() {
		for _, b := range [][]byte{nil, {}, {0x4d}, raw("4D 55"), raw("4D 54 01 80 00"), sealOf(0, nil), sealOf(1, []byte("abc")), sealOf(v&0xff, []byte("abc"))} {
			refuses(t, v, b, api.ErrVersion)
		}
	}
}

func TestP7_4OpenWhatWasSealed(t *testing.T) {
	d := dice(741)
	for range 500 {
		v, payload := d.below(3), d.bytes(d.below(400))
		b, e := frame.Seal(v, payload)
		if e != api.OK {
			t.Fatalf("Seal(%d, %x) = %d", v, payload, e)
		}
		opens(t, v, b, payload, len(b))
	}
}
