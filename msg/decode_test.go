package msg_test

import (
	"math"
	"testing"

	"moot/api"
	"moot/wire"
)

func TestP5_5Forms(t *testing.T) {
	eachForm(func(v int, f form, b []byte) { decodes(t, v, f.n, b, f.m, api.OK) })
}

func TestP5_5Examples(t *testing.T) {
	for _, c := range []struct {
		v     int
		b     string
		fault api.Errno
	}{
		{2, "04 2B 10", api.ErrMsgInst}, {2, "04 01 10", api.ErrMsgInst}, {1, "04 01 05 02", api.ErrShort}, {1, "04 01 05 02 03", api.ErrMsgBallot},
		{2, "04 29 10 00", api.ErrMsgRest}, {2, "07 29 10 06", api.ErrMsgVote}, {2, "07 29 10 05 0A", api.ErrMsgVote}, {2, "0A", api.ErrMsgKind},
	} {
		refuses(t, c.v, 3, raw(c.b), c.fault)
	}
}

func TestP5_5VersionsAndSizes(t *testing.T) {
	inputs := [][]byte{nil, {}, {0}, {10}, {0x80}, {4, 0x80, 0}, run(0xff, 30)}
	eachForm(func(v int, f form, b []byte) { inputs = append(inputs, b) })
	for _, b := range inputs {
		for _, v := range noVersions() {
			for _, n := range append(noSizes(), 1, 3, 7) {
				refuses(t, v, n, b, api.ErrVersion)
			}
		}
		for _, n := range noSizes() {
			refuses(t, 1, n, b, api.ErrSize)
			refuses(t, 2, n, b, api.ErrSize)
		}
	}
}

func TestP5_5NoBytes(t *testing.T) {
	for n := 1; n <= 7; n++ {
		for v := 1; v <= 2; v++ {
			refuses(t, v, n, nil, api.ErrShort)
			refuses(t, v, n, []byte{}, api.ErrShort)
			refuses(t, v, n, run(4, 9)[:0], api.ErrShort)
		}
	}
}

func tails() [][]byte {
	return [][]byte{nil, {0}, {1}, {9}, {0x80}, {0x80, 0}, run(0xff, 20), raw("01 05 02 00"), raw("29 10")}
}

func TestP5_5Kinds(t *testing.T) {
	for x := range 256 {
		for v := 1; v <= 2; v++ {
			if 1 <= x && x <= lastKind(v) {
				refuses(t, v, 3, []byte{byte(x)}, api.ErrShort)
				continue
			}
			for _, tail := range tails() {
				refuses(t, v, 3, join([]byte{byte(x)}, tail), api.ErrMsgKind)
			}
		}
	}
}

// brokenNumbers are bytes at which no number stands, with layer 1's error.
func brokenNumbers() map[string]api.Errno {
	return map[string]api.Errno{
		"":                          api.ErrShort,
		"\x80":                      api.ErrShort,
		"\xff\xff":                  api.ErrShort,
		string(run(0xff, 9)):        api.ErrShort,
		"\x80\x00":                  api.ErrForm,
		"\x81\x00\x01":              api.ErrForm,
		"\xff\x80\x80\x80\x00":      api.ErrForm,
		string(run(0x80, 9, 0)):     api.ErrForm,
		string(run(0xff, 9, 0, 1)):  api.ErrForm,
		string(run(0xff, 9, 2)):     api.ErrWide,
		string(run(0x80, 9, 0x80)):  api.ErrWide,
		string(run(0xff, 30)):       api.ErrWide,
		string(run(0x80, 9, 3, 17)): api.ErrWide,
	}
}

// numberPlaces are what stands ahead of a number, of all fields and both versions, n being 3; what it would stand for may be amiss already.
func numberPlaces() map[int][]string {
	return map[int][]string{
		1: {
			"01", "02", "03", "04", "05", "06", "07", "08", "04 01", "04 03", "04 FFFFFFFFFFFFFFFFFF01", // Inst
			"01 01 05", "02 01 05", "03 01 05", "04 01 05", "06 01 05", "07 01 05", "08 01 05", "04 01 05 02", "06 01 05 00", "04 01 05 80 80 04", // Bal
			"07 01 05 02 00 01 00", "07 01 05 02 00 01 01", "07 01 05 02 00 02 00", "07 01 05 02 00 01 00 05", "07 01 05 02 00 01 01 01", "08 01 05 02 00", "08 01 05 02 00 00", // VBal
			"02 01 05 00 01", "01 01 05 00 01 Put", "03 01 05 00 01 Put", "03 01 05 00 01 00", "05 01 05 Put", "05 01 05 00", "07 01 05 02 00 01 00 00 01 Put", // Seq
			"02 01 05 00 01 02", "02 01 05 00 01 02 03", "02 01 05 00 01 02 03 04", "05 01 05 00 00 01", "05 01 05 Put 01 00 00", // Deps
			"01 01 05 00 01 02", "05 01 05 02 07", // Cmd
		},
		2: {
			"01", "02", "03", "04", "05", "06", "07", "08", "09", // Inst
			"01 29", "02 29", "03 29", "04 29", "06 29", "07 29", "08 29", // Bal
			"07 29 10 01", "07 29 10 05", "07 29 10 02", "08 29 10", // VBal
			"02 29 01", "01 29 01 Put", "03 29 01 Put", "03 29 01 00", "05 29 Put", "05 29 00", "07 29 10 01 01 Put", // Seq
			"02 29 01 02", "02 29 01 02 01", "02 29 01 02 07 06 02", "05 29 00 00", "05 29 00 00 01", // Deps
			"01 29 01 02", "05 29 02 07", // Cmd
		},
	}
}

func TestP5_5BrokenNumbersAtEveryPlace(t *testing.T) {
	for v, heads := range numberPlaces() {
		for _, head := range heads {
			for bad, fault := range brokenNumbers() {
				refuses(t, v, 3, join(raw(head), []byte(bad)), fault)
			}
		}
	}
}

func TestP5_5MissingBytes(t *testing.T) {
	for v, heads := range map[int][]string{
		1: {"", "07 01 05 02 00", "07 01 05 02 00 01", "07 01 05 02 00 02", "01 01 05 00 01", "05 01 05"},
		2: {"", "07 29 10", "01 29 01", "05 29"},
	} {
		for _, head := range heads {
			refuses(t, v, 3, raw(head), api.ErrShort)
		}
	}
}

// Row and Num are read both ahead of judging any of them; so are Round and Who.
func TestP5_5BothNumbersComeFirst(t *testing.T) {
	for _, x := range greatNumbers() {
		wide := number(x)
		for _, head := range []string{"04", "04 01 05", "08 01 05 00 01", "07 01 05 02 00 01 00"} {
			first := join(raw(head), wide)
			refuses(t, 1, 3, first, api.ErrShort)
			refuses(t, 1, 3, join(first, []byte{0x80, 0}), api.ErrForm)
			refuses(t, 1, 3, join(first, run(0xff, 10)), api.ErrWide)
		}
	}
}

// A number of any size at every place of an AcceptOK, a Nack, a PreAcceptOK and a vote; the others are as they should be.
func TestP5_5NumbersOfAllSizes(t *testing.T) {
	for _, x := range greatNumbers() {
		wide := number(x)
		for _, p := range []struct {
			head, tail string
			ok         bool
			fault      api.Errno
		}{
			{"04", "05 02 00", x < 3, api.ErrMsgInst},
			{"04 01", "02 00", 1 <= x && x <= topNum, api.ErrMsgInst},
			{"04 01 05", "00", 1 <= x && x <= 65535, api.ErrMsgBallot},
			{"04 01 05", "01", x <= 65535, api.ErrMsgBallot},
			{"04 01 05 02", "", x < 3, api.ErrMsgBallot},
			{"04 01 05 00", "", x == 1, api.ErrMsgBallot},
			{"06 01 05", "01", 1 <= x && x <= 65535, api.ErrMsgBallot},
			{"08 01 05 00 01", "00", 1 <= x && x <= 65535, api.ErrMsgVote},
			{"08 01 05 02 00 02", "", 1 <= x && x <= 2, api.ErrMsgVote},
			{"07 01 05 02 01 02 00", "01 00 00 00 00 00", x <= 1, api.ErrMsgVote},
			{"07 01 05 02 01 02 00 02", "00 00 00 00 00", x == 0, api.ErrMsgVote},
			{"02 01 05 00 01", "00 00 00", 1 <= x && x <= topSeq, api.ErrMsgSeq},
			{"05 01 05 Put", "00 00 00", 1 <= x && x <= topSeq, api.ErrMsgSeq},
			{"05 01 05 00", "00 00 00", x == 0, api.ErrMsgSeq},
			{"05 01 05 Put 01 00", "00", x <= topNum, api.ErrEntry},
		} {
			judges(t, 1, join(raw(p.head), wide, raw(p.tail)), p.ok, p.fault)
		}
		row, num := x%8, x/8
		for _, p := range []struct {
			head, tail string
			ok         bool
			fault      api.Errno
		}{
			{"04", "10", row < 3 && 1 <= num && num <= topNum, api.ErrMsgInst},
			{"09", "", row < 3 && 1 <= num && num <= topNum, api.ErrMsgInst},
			{"04 29", "", row < 3 && 1 <= num && num <= 65535 || x == 1, api.ErrMsgBallot},
			{"06 29", "", row < 3 && 1 <= num && num <= 65535, api.ErrMsgBallot},
			{"08 29 01", "", row < 3 && 1 <= num && num <= 65535, api.ErrMsgVote},
			{"07 29 12 02", "00 00 00", x == 1 || x == 8 || x == 9 || x == 10 || x == 16 || x == 17, api.ErrMsgVote},
			{"02 29 01", "00", 1 <= x && x <= topSeq, api.ErrMsgSeq},
			{"05 29 Put", "00", 1 <= x && x <= topSeq, api.ErrMsgSeq},
			{"05 29 00", "00", x == 0, api.ErrMsgSeq},
			{"05 29 Put 01 01", "", x > 0 && x%2 == 0 && x/2 <= topNum, map[bool]api.Errno{true: api.ErrStill, false: api.ErrEntry}[x == 0]},
		} {
			judges(t, 2, join(raw(p.head), wide, raw(p.tail)), p.ok, p.fault)
		}
	}
}

// judges asks for OK or for that error, n being 3.
func judges(t *testing.T, v int, b []byte, ok bool, fault api.Errno) {
	t.Helper()
	if !ok {
		refuses(t, v, 3, b, fault)
		return
	}
	m, e := modelDecode(v, 3, b)
	if e != api.OK {
		t.Errorf("the model refuses %x with %d", b, e)
	}
	decodes(t, v, 3, b, m, api.OK)
}

// Every packed number that is near the bounds, for every n: what it stands for is its halves, not the sum.
func TestP5_5PackedNumbers(t *testing.T) {
	for n := 1; n <= 7; n++ {
		for _, count := range []uint64{0, 1, 2, 65534, 65535, 65536, 65537, topNum - 1, topNum, topNum + 1, 1 << 29, 1<<32 + 1, 1<<61 - 1} {
			for low := range uint64(8) {
				packed := number(8*count + low)
				inst := low < uint64(n) && 1 <= count && count <= topNum
				if want := (api.Msg{Kind: 9, Inst: api.Inst{Row: int(low), Num: int(count)}}); inst {
					decodes(t, 2, n, join([]byte{9}, packed), want, api.OK)
				} else {
					refuses(t, 2, n, join([]byte{9}, packed), api.ErrMsgInst)
				}
				ballot := low < uint64(n) && count <= 65535 && (count > 0 || low == 0)
				if want := (api.Msg{Kind: 4, Inst: api.Inst{Num: 1}, Bal: api.Ballot{Round: int(count), Who: int(low)}}); ballot {
					decodes(t, 2, n, join([]byte{4, 8}, packed), want, api.OK)
				} else {
					refuses(t, 2, n, join([]byte{4, 8}, packed), api.ErrMsgBallot)
				}
			}
		}
	}
}

func TestP5_5VoteBytesOfVersion1(t *testing.T) {
	for x := range 256 {
		head := join(raw("07 01 05 02 00"), []byte{byte(x)})
		if x > 2 {
			refuses(t, 1, 3, head, api.ErrMsgVote)
			for _, tail := range tails() {
				refuses(t, 1, 3, join(head, tail), api.ErrMsgVote)
			}
			continue
		}
		if x == 0 {
			decodes(t, 1, 3, head, api.Msg{Kind: 7, Inst: api.Inst{Row: 1, Num: 5}, Bal: api.Ballot{Round: 2}}, api.OK)
			refuses(t, 1, 3, join(head, []byte{0}), api.ErrMsgRest)
			continue
		}
		refuses(t, 1, 3, head, api.ErrShort)
		for flag := range 256 {
			b := join(head, []byte{byte(flag)})
			if flag > 1 || flag == 1 && x == 2 {
				refuses(t, 1, 3, b, api.ErrMsgVote)
				refuses(t, 1, 3, join(b, []byte{0x80, 0}), api.ErrMsgVote)
				continue
			}
			refuses(t, 1, 3, b, api.ErrShort)
			want := example(7, x, 3)
			want.Inst.Row, want.VBal, want.Same = 1, api.Ballot{Who: 1}, flag == 1
			decodes(t, 1, 3, join(b, raw("00 01 Put 02 03 03 03")), want, api.OK)
		}
	}
}

func TestP5_5VoteBytesOfVersion2(t *testing.T) {
	for x := range 256 {
		head := join(raw("07 29 10"), []byte{byte(x)})
		switch x {
		case 0:
			decodes(t, 2, 3, head, api.Msg{Kind: 7, Inst: api.Inst{Row: 1, Num: 5}, Bal: api.Ballot{Round: 2}}, api.OK)
			refuses(t, 2, 3, join(head, []byte{0}), api.ErrMsgRest)
		case 1, 2, 5:
			refuses(t, 2, 3, head, api.ErrShort)
			want := example(7, x%4, 3)
			if x == 5 {
				want = example(7, 1, 3)
			}
			want.Inst.Row, want.VBal, want.Same = 1, api.Ballot{Who: 1}, x == 5
			decodes(t, 2, 3, join(head, raw("01 Put 02 01 06")), want, api.OK)
		default:
			for _, tail := range append(tails(), raw("01 Put 02 01 06")) {
				refuses(t, 2, 3, join(head, tail), api.ErrMsgVote)
			}
		}
	}
}

// VBal's numbers are read ahead of judging it, and it is judged ahead of the command.
func TestP5_5VotesBallots(t *testing.T) {
	for _, c := range []struct {
		v     int
		b     string
		fault api.Errno
	}{
		{1, "07 01 05 02 00 01 01 01 02", api.ErrMsgVote}, {1, "07 01 05 02 00 01 01 01 02 09", api.ErrMsgVote}, {1, "07 01 05 02 00 01 01 01", api.ErrShort},
		{1, "07 01 05 02 00 01 00 01 02 09", api.ErrKind}, {1, "07 01 05 02 00 01 00 02 00", api.ErrMsgVote}, {1, "07 01 05 02 00 01 00 00 00", api.ErrMsgVote},
		{1, "07 01 05 02 00 01 00 01 03", api.ErrMsgVote}, {1, "07 01 05 02 00 01 00 02 01", api.ErrMsgVote}, {1, "07 01 05 02 02 01 00 02 01 09", api.ErrKind},
		{2, "07 29 10 05 0A", api.ErrMsgVote}, {2, "07 29 10 05 0A 09", api.ErrMsgVote}, {2, "07 29 10 01 0A 09", api.ErrKind}, {2, "07 29 10 01 10", api.ErrMsgVote},
		{2, "07 29 10 01 00", api.ErrMsgVote}, {2, "07 29 10 01 0B", api.ErrMsgVote}, {2, "07 29 10 01 11", api.ErrMsgVote}, {2, "07 29 12 01 11 09", api.ErrKind},
		{1, "08 01 05 02 00 02 00", api.ErrMsgVote}, {1, "08 01 05 02 00 00 01", api.ErrMsgVote}, {1, "08 01 05 02 00 02 03 00", api.ErrMsgVote}, {1, "08 01 05 02 00 02 01 00", api.ErrMsgRest},
		{2, "08 29 10 10", api.ErrMsgVote}, {2, "08 29 10 01", api.ErrMsgVote}, {2, "08 29 10 13 00", api.ErrMsgVote}, {2, "08 29 10 11 00", api.ErrMsgRest},
	} {
		refuses(t, c.v, 3, raw(c.b), c.fault)
	}
}

// cmdPlaces are what stands ahead of a command, n being 3, and whether a noop may stand there.
func cmdPlaces() map[int]map[string]bool {
	return map[int]map[string]bool{
		1: {"01 01 05 00 01": false, "03 01 05 00 01": true, "05 01 05": true, "07 01 05 02 00 01 00 00 01": false, "07 01 05 02 00 01 01 00 01": false, "07 01 05 02 00 02 00 00 01": true},
		2: {"01 29 01": false, "03 29 01": true, "05 29": true, "07 29 10 01 01": false, "07 29 10 05 01": false, "07 29 10 02 01": true},
	}
}

func TestP5_5Commands(t *testing.T) {
	for v, heads := range cmdPlaces() {
		for head := range heads {
			at := raw(head)
			for bad, fault := range map[string]api.Errno{
				"": api.ErrShort, "09": api.ErrKind, "FF": api.ErrKind, "02": api.ErrShort, "02 80 80 04": api.ErrClient, "02 80 00": api.ErrForm, "02 00 81 80 80 80 04": api.ErrReq,
				"02 00 00 00": api.ErrKey, "02 00 00 41": api.ErrKey, "02 00 00 02 6B": api.ErrShort, "02 00 00 01 6B 81 80 04": api.ErrVal, "05 00 00 01 6B 81 80 04": api.ErrOld,
				"04 00 00 01 6B FF FF FF FF FF FF FF FF FF 02": api.ErrWide,
			} {
				refuses(t, v, 3, join(at, raw(bad)), fault)
			}
			want := map[int]api.Errno{1: api.ErrKind, 2: api.ErrShort}[v]
			for _, b := range []string{"06", "07", "08"} {
				refuses(t, v, 3, join(at, raw(b)), want)
			}
			long := join(at, raw("02 00 00 01 6B 81 08"), []byte(text(1025)))
			refuses(t, v, 3, long, map[int]api.Errno{1: api.ErrVal, 2: api.ErrShort}[v])
		}
	}
	refuses(t, 2, 3, raw("05 29 07 00 00 01 6B 01 00"), api.ErrKey2)
	refuses(t, 2, 3, raw("05 29 08 00 00 02 61 62 00 03 61 63 64"), api.ErrForm)
}

// A noop in the wrong place is found ahead of what stands behind it, and behind what is amiss ahead of it.
func TestP5_5Noops(t *testing.T) {
	for v, heads := range cmdPlaces() {
		for head, may := range heads {
			noop := join(raw(head), []byte{0})
			if may {
				refuses(t, v, 3, noop, api.ErrShort)
				refuses(t, v, 3, join(noop, []byte{1}), api.ErrMsgSeq)
				refuses(t, v, 3, join(noop, []byte{0x80, 0}), api.ErrForm)
				refuses(t, v, 3, join(noop, number(math.MaxUint64)), api.ErrMsgSeq)
				continue
			}
			for _, tail := range tails() {
				refuses(t, v, 3, join(noop, tail), api.ErrMsgNoop)
			}
		}
	}
	refuses(t, 1, 3, raw("01 01 05 00 02 00"), api.ErrMsgBallot)
	refuses(t, 2, 3, raw("07 29 10 01 10 00"), api.ErrMsgVote)
}

func TestP5_5DepsOfNoops(t *testing.T) {
	for v, heads := range cmdPlaces() {
		for head, may := range heads {
			if !may {
				continue
			}
			noop := join(raw(head), []byte{0, 0})
			plain := raw(map[int]string{1: "00 00 00", 2: "00"}[v])
			judges(t, v, join(noop, plain), true, api.OK)
			refuses(t, v, 3, join(noop, plain, []byte{0}), api.ErrMsgRest)
			for _, deps := range map[int][]string{
				1: {"01 00 00", "00 01 00", "00 00 01", "00 00 80 80 40", "05 05 05"},
				2: {"01 02", "02 02", "04 02", "03 02 01", "07 02 02 03", "04 80 80 80 01"},
			}[v] {
				refuses(t, v, 3, join(noop, raw(deps)), api.ErrMsgDeps)
				refuses(t, v, 3, join(noop, raw(deps), []byte{0}), api.ErrMsgDeps)
				judges(t, v, join(raw(head), raw("Put 01"), raw(deps)), true, api.OK)
			}
		}
	}
}

func TestP5_5Deps(t *testing.T) {
	for v, heads := range map[int][]string{
		1: {"02 01 05 00 01 01", "01 01 05 00 01 Put 01", "05 01 05 00 00", "07 01 05 02 00 02 00 00 01 00 00"},
		2: {"02 29 01 01", "01 29 01 Put 01", "05 29 00 00", "07 29 10 02 01 00 00"},
	} {
		bad := map[int]map[string]api.Errno{
			1: {"": api.ErrShort, "00 00": api.ErrShort, "81 80 40 00 00": api.ErrEntry, "00 00 81 80 40": api.ErrEntry, "00 80 00": api.ErrForm, "00 FFFFFFFFFFFFFFFFFF02": api.ErrWide, "00 FFFFFFFFFFFFFFFFFF01": api.ErrEntry},
			2: {"": api.ErrShort, "08": api.ErrMask, "FFFFFFFFFFFFFFFFFF01": api.ErrMask, "01": api.ErrShort, "01 00": api.ErrStill, "01 01": api.ErrEntry, "01 82 80 80 01": api.ErrEntry, "80 00": api.ErrForm, "01 FFFFFFFFFFFFFFFFFF01": api.ErrEntry, "03 02 03": api.ErrEntry},
		}[v]
		for _, head := range heads {
			for b, fault := range bad {
				refuses(t, v, 3, join(raw(head), raw(b)), fault)
			}
		}
	}
	// As many entries as there are replicas.
	for n := 1; n <= 7; n++ {
		for size := range 9 {
			b := join(raw("05 00 01 Put 01"), run(7, size))
			switch want := (api.Msg{Kind: 5, Inst: api.Inst{Num: 1}, Cmd: put, Seq: 1, Deps: filled(size, 7)}); {
			case size < n:
				refuses(t, 1, n, b, api.ErrShort)
			case size > n:
				refuses(t, 1, n, b, api.ErrMsgRest)
			default:
				decodes(t, 1, n, b, want, api.OK)
			}
			mask := join(raw("05 08 Put 01"), number(1<<size), wire.PutInt(9))
			want := append(filled(min(size, n), 0), filled(n-min(size, n), 9)...)
			if size >= n {
				refuses(t, 2, n, mask, api.ErrMask)
			} else {
				decodes(t, 2, n, mask, api.Msg{Kind: 5, Inst: api.Inst{Num: 1}, Cmd: put, Seq: 1, Deps: want}, api.OK)
			}
		}
	}
}

// The first fault is the answer, whatever comes behind it.
func TestP5_5FirstFault(t *testing.T) {
	for _, c := range []struct {
		v     int
		b     string
		fault api.Errno
	}{
		{1, "0A 80 00", api.ErrMsgKind}, {2, "0A 80 00", api.ErrMsgKind}, {1, "09 01 05", api.ErrMsgKind},
		{1, "04 03 05 80 00", api.ErrMsgInst}, {1, "04 01 00 80 00", api.ErrMsgInst}, {2, "04 2B 80 00", api.ErrMsgInst}, {2, "04 2B", api.ErrMsgInst}, {1, "04 03 00", api.ErrMsgInst},
		{1, "01 01 05 00 02 09", api.ErrMsgBallot}, {2, "01 29 02 09", api.ErrMsgBallot}, {1, "07 01 05 00 01 03", api.ErrMsgBallot}, {2, "07 29 01 03", api.ErrMsgBallot}, {2, "06 29 01 00", api.ErrMsgBallot},
		{1, "01 01 05 00 01 09 00", api.ErrKind}, {2, "01 29 01 09 00", api.ErrKind},
		{1, "02 01 05 00 01 00 80 00", api.ErrMsgSeq}, {2, "02 29 01 00 08", api.ErrMsgSeq}, {2, "02 29 01 00", api.ErrMsgSeq}, {2, "05 29 Put 00 08", api.ErrMsgSeq}, {2, "05 29 00 01 08", api.ErrMsgSeq},
		{2, "02 29 01 01 08 00", api.ErrMask}, {2, "02 29 01 01 00 00", api.ErrMsgRest}, {2, "05 29 00 00 01 00 00", api.ErrStill},
	} {
		refuses(t, c.v, 3, raw(c.b), c.fault)
	}
}

func TestP5_5BytesLeftOver(t *testing.T) {
	eachForm(func(v int, f form, b []byte) {
		for x := range 256 {
			refuses(t, v, f.n, join(b, []byte{byte(x)}), api.ErrMsgRest)
		}
		for _, rest := range [][]byte{b, run(0, 20), run(0x80, 20), run(0xff, 1<<20)} {
			refuses(t, v, f.n, join(b, rest), api.ErrMsgRest)
		}
	})
}
