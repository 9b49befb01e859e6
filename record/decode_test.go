package record_test

import (
	"math"
	"testing"

	"moot/api"
	"moot/wire"
)

func TestP6_3Forms(t *testing.T) {
	for _, f := range forms() {
		decodes(t, f.n, raw(f.s), f.r)
	}
}

func TestP6_3Examples(t *testing.T) {
	for b, fault := range map[string]api.Errno{
		"02 21 00": api.ErrRecBallot, "02 21 01": api.ErrRecBallot, "02 23 10": api.ErrRecInst, "02 01 10": api.ErrRecInst, "02 21 10 00": api.ErrRecRest, "02 21": api.ErrShort,
		"03 08 08 01": api.ErrRecSame, "03 08 00 00 00": api.ErrRecAttr, "01 03 03": api.ErrRecHead, "01 00 08": api.ErrRecHead, "": api.ErrShort, "06": api.ErrRecKind,
	} {
		refuses(t, 3, raw(b), fault)
	}
}

func TestP6_3Sizes(t *testing.T) {
	inputs := [][]byte{nil, {}, {0}, {6}, {0x80}, {2, 0x80, 0}, run(0xff, 30)}
	for _, f := range forms() {
		inputs = append(inputs, raw(f.s))
	}
	for _, b := range inputs {
		for _, n := range noSizes() {
			refuses(t, n, b, api.ErrSize)
		}
	}
}

func TestP6_3NoBytes(t *testing.T) {
	for n := 1; n <= 7; n++ {
		for _, b := range [][]byte{nil, {}, run(2, 9)[:0]} {
			refuses(t, n, b, api.ErrShort)
		}
	}
}

func tails() [][]byte {
	return [][]byte{nil, {0}, {1}, {9}, {0x80}, {0x80, 0}, run(0xff, 20), raw("02 03"), raw("21 10")}
}

func TestP6_3Kinds(t *testing.T) {
	for x := range 256 {
		if 1 <= x && x <= 5 {
			refuses(t, 3, []byte{byte(x)}, api.ErrShort)
			continue
		}
		for _, tail := range tails() {
			refuses(t, 3, join([]byte{byte(x)}, tail), api.ErrRecKind)
		}
	}
}

// brokenNumbers are bytes at which no number stands, with layer 1's error.
func brokenNumbers() map[string]api.Errno {
	return map[string]api.Errno{
		"":                          api.ErrShort,
		"\x80":                      api.ErrShort,
		"\xff\xff":                  api.ErrShort,
		string(run(0xff, 9)):        api.ErrShort,
		"\x80\x00":                  api.ErrForm,
		"\x81\x00\x01":              api.ErrForm,
		"\xff\x80\x80\x80\x00":      api.ErrForm,
		string(run(0x80, 9, 0)):     api.ErrForm,
		string(run(0xff, 9, 0, 1)):  api.ErrForm,
		string(run(0xff, 9, 2)):     api.ErrWide,
		string(run(0x80, 9, 0x80)):  api.ErrWide,
		string(run(0xff, 30)):       api.ErrWide,
		string(run(0x80, 9, 3, 17)): api.ErrWide,
	}
}

// What chapter 1 finds amiss comes ahead of all bounds, at every place of a number.
func TestP6_3BrokenNumbersAtEveryPlace(t *testing.T) {
	for _, head := range []string{
		"01", "01 02", "01 09", "01 FFFFFFFFFFFFFFFFFF01", // Id, N: both are read ahead of judging any
		"02", "03", "04", "05", // Inst
		"02 21", "03 21", "04 21", // Bal
		"03 21 01 00 Put", "03 21 01 01 Put", "04 21 10 Put", "05 21 Put", // Seq
		"03 21 01 00 Put 01", "04 21 10 Put 01", "05 21 Put 01", "05 21 Put 01 01", "05 21 Put 01 07 02 02", // Deps
		"03 21 01 00 02", "04 21 10 02 07", "05 21 02", "05 21 02 07 01", // Cmd
	} {
		for bad, fault := range brokenNumbers() {
			refuses(t, 3, join(raw(head), []byte(bad)), fault)
		}
	}
}

func TestP6_3MissingBytes(t *testing.T) {
	for _, head := range []string{"", "03 21 01", "03 21 10", "03 21 01 00", "03 21 01 01", "04 21 10", "05 21"} {
		refuses(t, 3, raw(head), api.ErrShort)
	}
}

// judges asks for what the model reads, or for that error.
func judges(t *testing.T, n int, b []byte, ok bool, fault api.Errno) {
	t.Helper()
	if !ok {
		refuses(t, n, b, fault)
		return
	}
	r, e := modelDecode(n, b)
	if e != api.OK {
		t.Errorf("the model refuses %x with %d", b, e)
	}
	decodes(t, n, b, r)
}

// A number of any size at every place; the others are as they should be.
func TestP6_3NumbersOfAllSizes(t *testing.T) {
	for _, x := range greatNumbers() {
		low, high := x%8, x/8
		inst := low < 3 && 1 <= high && high <= topNum
		ballot := low < 3 && 1 <= high && high <= topRound
		seq := 1 <= x && x <= topSeq
		for _, p := range []struct {
			head, tail string
			ok         bool
			fault      api.Errno
		}{
			{"01", "03", x < 3, api.ErrRecHead},
			{"01", "07", x < 7, api.ErrRecHead},
			{"01", "00", false, api.ErrRecHead},
			{"01", "08", false, api.ErrRecHead},
			{"01 00", "", 1 <= x && x <= 7, api.ErrRecHead},
			{"01 02", "", 3 <= x && x <= 7, api.ErrRecHead},
			{"01 07", "", false, api.ErrRecHead},
			{"01 FFFFFFFFFFFFFFFFFF01", "", false, api.ErrRecHead},
			{"02", "10", inst, api.ErrRecInst},
			{"03", "10 00 Put 01 00", inst, api.ErrRecInst},
			{"04", "10 00", inst, api.ErrRecInst},
			{"05", "00", inst, api.ErrRecInst},
			{"02 21", "", ballot, api.ErrRecBallot},
			{"03 21", "00 Put 01 00", ballot || x == 1, api.ErrRecBallot},
			{"04 21", "00", ballot || x == 1, api.ErrRecBallot},
			{"04 0A", "Put 01 00", ballot || x == 2, api.ErrRecBallot},
			{"03 21 01 01 Put", "00", seq, api.ErrRecAttr},
			{"04 21 10 Put", "00", seq, api.ErrRecAttr},
			{"05 21 Put", "00", seq, api.ErrRecAttr},
			{"05 21 Put 01", "02 02 02", x == 7, map[bool]api.Errno{true: api.ErrMask, false: api.ErrRecRest}[x > 7]},
			{"05 21 Put 01 01", "", x > 0 && x%2 == 0 && x/2 <= topNum, map[bool]api.Errno{true: api.ErrStill, false: api.ErrEntry}[x == 0]},
		} {
			judges(t, 3, join(raw(p.head), number(x), raw(p.tail)), p.ok, p.fault)
		}
	}
}

// Every packed number that is near the bounds, for every n: what it stands for is its halves, not the sum.
func TestP6_3PackedNumbers(t *testing.T) {
	for n := 1; n <= 7; n++ {
		for _, count := range []uint64{0, 1, 2, 65534, 65535, 65536, 65537, topNum - 1, topNum, topNum + 1, 1 << 29, 1<<32 + 1, 1<<61 - 1} {
			for low := range uint64(8) {
				packed := number(8*count + low)
				commit := api.Record{Kind: 5, Inst: api.Inst{Row: int(low), Num: int(count)}, Deps: filled(n, 0)}
				if b := join([]byte{5}, packed, []byte{0}); low < uint64(n) && 1 <= count && count <= topNum {
					decodes(t, n, b, commit)
				} else {
					refuses(t, n, b, api.ErrRecInst)
				}
				for row := range n {
					at := api.Inst{Row: row, Num: 1}
					head := number(uint64(8 + row))
					bal := api.Ballot{Round: int(count), Who: int(low)}
					if b := join([]byte{2}, head, packed); low < uint64(n) && 1 <= count && count <= 65535 {
						decodes(t, n, b, api.Record{Kind: 2, Inst: at, Bal: bal})
					} else {
						refuses(t, n, b, api.ErrRecBallot)
					}
					if b := join([]byte{4}, head, packed, []byte{0}); low < uint64(n) && count <= 65535 && (count > 0 || low == uint64(row)) {
						decodes(t, n, b, api.Record{Kind: 4, Inst: at, Bal: bal, Deps: filled(n, 0)})
					} else {
						refuses(t, n, b, api.ErrRecBallot)
					}
				}
			}
		}
	}
}

func TestP6_3Heads(t *testing.T) {
	for n := 1; n <= 7; n++ {
		for id := range 128 {
			refuses(t, n, []byte{1, byte(id)}, api.ErrShort)
			for size := range 128 {
				b := []byte{1, byte(id), byte(size)}
				if id < size && size <= 7 {
					decodes(t, n, b, api.Record{Kind: 1, Id: id, N: size})
				} else {
					refuses(t, n, b, api.ErrRecHead)
				}
			}
		}
	}
}

// Same's byte is judged ahead of what stands behind it, and only round 0 may have 1.
func TestP6_3SamesByte(t *testing.T) {
	for x := range 256 {
		for bal, first := range map[string]bool{"01": true, "08": false, "10": false, "FA FF 1F": false} {
			head := join(raw("03 21"), raw(bal), []byte{byte(x)})
			full := join(head, raw("Put 02 01 06"))
			if x == 0 || x == 1 && first {
				refuses(t, 3, head, api.ErrShort)
				refuses(t, 3, join(head, []byte{9}), api.ErrKind)
				judges(t, 3, full, true, api.OK)
				if r, _ := modelDecode(3, full); r.Same != (x == 1) {
					t.Errorf("Same of %x is %v", full, r.Same)
				}
				continue
			}
			for _, tail := range append(tails(), raw("Put 02 01 06")) {
				refuses(t, 3, join(head, tail), api.ErrRecSame)
			}
		}
	}
}

// cmdPlaces are what stands ahead of a command, n being 3, and whether a noop may stand there.
func cmdPlaces() map[string]bool {
	return map[string]bool{"03 21 01 00": false, "03 21 01 01": false, "03 21 10 00": false, "04 21 01": true, "04 21 10": true, "05 21": true}
}

func TestP6_3Commands(t *testing.T) {
	for head := range cmdPlaces() {
		for bad, fault := range map[string]api.Errno{
			"": api.ErrShort, "09": api.ErrKind, "FF": api.ErrKind, "02": api.ErrShort, "06": api.ErrShort, "02 80 80 04": api.ErrClient, "02 80 00": api.ErrForm, "02 00 81 80 80 80 04": api.ErrReq,
			"02 00 00 00": api.ErrKey, "02 00 00 41": api.ErrKey, "02 00 00 02 6B": api.ErrShort, "02 00 00 01 6B 81 80 04": api.ErrVal, "05 00 00 01 6B 81 80 04": api.ErrOld,
			"04 00 00 01 6B FF FF FF FF FF FF FF FF FF 02": api.ErrWide, "07 00 00 01 6B 01 00": api.ErrKey2, "08 00 00 02 61 62 00 03 61 63 64": api.ErrForm,
		} {
			refuses(t, 3, join(raw(head), raw(bad)), fault)
		}
		long := join(raw(head), raw("02 00 00 01 6B 81 08"), []byte(text(1025)))
		refuses(t, 3, long, api.ErrShort)
		judges(t, 3, join(long, raw("01 00")), true, api.OK)
	}
}

// Behind a noop there is nothing more; one that was voted for is found ahead of what stands behind it.
func TestP6_3Noops(t *testing.T) {
	for head, may := range cmdPlaces() {
		noop := join(raw(head), []byte{0})
		judges(t, 3, noop, may, api.ErrRecAttr)
		for _, tail := range append(tails()[1:], raw("00 00"), raw("01 00"), raw("00 00 00 00")) {
			fault := api.ErrRecAttr
			if may {
				fault = api.ErrRecRest
			}
			refuses(t, 3, join(noop, tail), fault)
		}
	}
	for n := 1; n <= 7; n++ {
		decodes(t, n, raw("04 08 08 00"), api.Record{Kind: 4, Inst: api.Inst{Num: 1}, Bal: api.Ballot{Round: 1}, Deps: filled(n, 0)})
		decodes(t, n, raw("05 08 00"), api.Record{Kind: 5, Inst: api.Inst{Num: 1}, Deps: filled(n, 0)})
		refuses(t, n, raw("03 08 00 01 00"), api.ErrRecAttr)
	}
}

func TestP6_3Deps(t *testing.T) {
	for _, head := range []string{"03 21 01 00 Put 01", "04 21 10 Put 01", "05 21 Put 01"} {
		for bad, fault := range map[string]api.Errno{
			"": api.ErrShort, "08": api.ErrMask, "08 02": api.ErrMask, "FFFFFFFFFFFFFFFFFF01": api.ErrMask, "01": api.ErrShort, "01 00": api.ErrStill, "01 01": api.ErrEntry,
			"01 82 80 80 01": api.ErrEntry, "80 00": api.ErrForm, "01 FFFFFFFFFFFFFFFFFF01": api.ErrEntry, "03 02 03": api.ErrEntry, "03 02 00": api.ErrStill, "07 02 02": api.ErrShort,
		} {
			refuses(t, 3, join(raw(head), raw(bad)), fault)
		}
	}
	for n := 1; n <= 7; n++ {
		for place := range 9 {
			b := join(raw("05 08 Put 01"), number(1<<place), wire.PutInt(9))
			want := append(filled(min(place, n), 0), filled(n-min(place, n), 9)...)
			if place >= n {
				refuses(t, n, b, api.ErrMask)
			} else {
				decodes(t, n, b, api.Record{Kind: 5, Inst: api.Inst{Num: 1}, Cmd: put, Seq: 1, Deps: want})
			}
		}
	}
}

// The first fault is the answer, whatever comes behind it.
func TestP6_3FirstFault(t *testing.T) {
	for b, fault := range map[string]api.Errno{
		"06 80 00": api.ErrRecKind, "00 21 10": api.ErrRecKind, "01 09 80 00": api.ErrForm, "01 09 08 00": api.ErrRecHead, "01 02 03 80": api.ErrRecRest,
		"02 23 80 00": api.ErrRecInst, "02 23": api.ErrRecInst, "02 01": api.ErrRecInst, "03 23 02 02": api.ErrRecInst, "05 23 09": api.ErrRecInst, "02 23 00": api.ErrRecInst,
		"02 21 01 00": api.ErrRecBallot, "03 21 02 02": api.ErrRecBallot, "04 21 02 09": api.ErrRecBallot, "04 21 13 00": api.ErrRecBallot,
		"03 21 10 01 00": api.ErrRecSame, "03 21 01 02 09": api.ErrRecSame, "03 21 01 01 09 00": api.ErrKind, "04 21 10 09 00": api.ErrKind, "03 21 01 00 00 80": api.ErrRecAttr,
		"05 21 Put 00": api.ErrRecAttr, "05 21 Put 00 08": api.ErrRecAttr, "05 21 Put 80 00 08": api.ErrForm, "05 21 Put 81 80 80 80 04": api.ErrRecAttr, "05 21 Put 01 08 00": api.ErrMask, "05 21 Put 01 00 00": api.ErrRecRest,
	} {
		refuses(t, 3, raw(b), fault)
	}
	refuses(t, 3, join(raw("05 21 Put"), number(math.MaxUint64), raw("08")), api.ErrRecAttr)
}

func TestP6_3BytesLeftOver(t *testing.T) {
	for _, f := range forms() {
		b := raw(f.s)
		for x := range 256 {
			refuses(t, f.n, join(b, []byte{byte(x)}), api.ErrRecRest)
		}
		for _, rest := range [][]byte{b, run(0, 20), run(0x80, 20), run(0xff, 1<<20)} {
			refuses(t, f.n, join(b, rest), api.ErrRecRest)
		}
	}
}
