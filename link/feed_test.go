package link_test

import (
	"bytes"
	"fmt"
	"math"
	"slices"
	"testing"

	"moot/api"
	"moot/link"
	"moot/msg"
)

func TestP8_5Examples(t *testing.T) {
	l := newLink(t, 0, 3, 1, 3)
	feeds(t, l, frameH(1, 3))
	stands(t, l, api.LinkState{Peer: 1, Phase: settled, Version: 2})
	feeds(t, l, join(frameW(), frameW(), frameW()[:4]), wanting, wanting)
	stands(t, l, api.LinkState{Peer: 1, Phase: settled, Version: 2, Held: 4})
	feeds(t, l, frameC())
	stands(t, l, api.LinkState{Peer: 1, Phase: closed, Version: 2, Err: api.ErrSum, At: 31})

	for _, c := range []struct {
		mask int
		b    []byte
		want []api.Msg
		s    api.LinkState
	}{
		{3, join(frameH(1, 1), frameC(), frameW(), frameC()), []api.Msg{accepted}, api.LinkState{Peer: 1, Phase: closed, Version: 1, Err: api.ErrOther, At: 24}},
		{1, frameH(1, 2), nil, api.LinkState{Peer: 1, Phase: closed, Err: api.ErrLinkCommon}},
		{3, frameH(2, 3), nil, api.LinkState{Peer: 1, Phase: closed, Err: api.ErrLinkPeer}},
		{3, frameW(), nil, api.LinkState{Peer: 1, Phase: closed, Err: api.ErrOther}},
	} {
		l := newLink(t, 0, 3, 1, c.mask)
		feeds(t, l, c.b, c.want...)
		stands(t, l, c.s)
	}
}

// nothing feeds chunks without bytes.
func nothing(t *testing.T, l *link.Link) {
	t.Helper()
	before := l.State()
	for _, chunk := range [][]byte{nil, {}, make([]byte, 0, 9), frameW()[:0]} {
		feeds(t, l, chunk)
		stands(t, l, before)
	}
}

// Nil and empty chunks behind every byte, in each phase.
func TestP8_5NilAndEmpty(t *testing.T) {
	l := newLink(t, 0, 3, 1, 3)
	b := join(frameH(1, 3), frameW(), frameW(), []byte("MTx"))
	var got []api.Msg
	for i := range b {
		nothing(t, l)
		got = append(got, l.Feed(b[i:i+1])...)
	}
	nothing(t, l)
	stands(t, l, api.LinkState{Peer: 1, Phase: closed, Version: 2, Err: api.ErrOther, At: 31})
	if !same(got, []api.Msg{wanting, wanting}) {
		t.Errorf("the messages are %s", short(got))
	}
}

// fault is a byte amiss behind the beginning of a frame.
type fault struct {
	begin []byte
	x     byte
	e     api.Errno
}

// faults are all bytes amiss at each place of a frame of version v: of its first bytes, of some lengths, of the sum.
func faults(v int, whole []byte) []fault {
	var out []fault
	add := func(begin []byte, e api.Errno, amiss func(x byte) bool) {
		for x := range 256 {
			if amiss(byte(x)) {
				out = append(out, fault{begin, byte(x), e})
			}
		}
	}
	no := func(good byte) func(byte) bool { return func(x byte) bool { return x != good } }
	only := func(bad byte) func(byte) bool { return func(x byte) bool { return x == bad } }
	add(nil, api.ErrMagic, no('M'))
	add([]byte("M"), api.ErrMagic, no('T'))
	add([]byte("MT"), api.ErrOther, no(byte(v)))
	head := []byte{'M', 'T', byte(v)}
	for _, first := range []byte{0x80, 0x81, 0xff} {
		add(append(head[:3:3], first), api.ErrForm, only(0))
		add(append(head[:3:3], first, 0x80), api.ErrForm, only(0))
		add(append(head[:3:3], first, 0x80), api.ErrLarge, func(x byte) bool { return x > 0x40 || x == 0x40 && first > 0x80 })
	}
	add(append(head[:3:3], 0x80, 0x81), api.ErrLarge, func(x byte) bool { return x >= 0x40 })
	for at := len(whole) - 4; at < len(whole); at++ {
		add(whole[:at], api.ErrSum, no(whole[at]))
	}
	return out
}

// closes feeds a byte amiss behind what the end has taken already, its frame beginning at a place.
func closes(t *testing.T, l *link.Link, f fault, place int) {
	t.Helper()
	before := l.State()
	feeds(t, l, f.begin)
	open := before
	open.Held = len(f.begin)
	stands(t, l, open)
	feeds(t, l, []byte{f.x})
	stands(t, l, api.LinkState{Peer: 1, Phase: closed, Version: before.Version, Err: f.e, At: place})
	feeds(t, l, join(frameH(1, 3), frameW(), frameC()))
	stands(t, l, api.LinkState{Peer: 1, Phase: closed, Version: before.Version, Err: f.e, At: place})
}

func TestP8_5FirstByteAmissWhileGreeting(t *testing.T) {
	for _, f := range faults(0, frameH(1, 3)) {
		closes(t, newLink(t, 0, 3, 1, 3), f, 0)
	}
}

func TestP8_5FirstByteAmissWhileSettled(t *testing.T) {
	for _, f := range faults(1, frameC()) {
		closes(t, settledLink(t, 1), f, 11)
		l := settledLink(t, 1)
		feeds(t, l, join(frameC(), frameC()), accepted, accepted)
		closes(t, l, f, 37)
	}
	for _, f := range faults(2, frameW()) {
		closes(t, settledLink(t, 2), f, 11)
		l := settledLink(t, 2)
		feeds(t, l, frameW(), wanting)
		closes(t, l, f, 21)
	}
}

// While it is greeting an end reads frames of version 0 alone, and none of them later.
func TestP8_4Versions(t *testing.T) {
	for mask := 1; mask <= 3; mask++ {
		for _, v := range []int{1, 2} {
			l := newLink(t, 0, 3, 1, mask)
			feeds(t, l, sealOf(v, numbers(1, 3, 3)))
			stands(t, l, api.LinkState{Peer: 1, Phase: closed, Err: api.ErrOther})
		}
	}
	for _, version := range []int{1, 2} {
		for v := range 3 {
			payload, _ := msg.Encode(version, 3, accepted)
			l := settledLink(t, version)
			if v == version {
				feeds(t, l, sealOf(v, payload), accepted)
				continue
			}
			feeds(t, l, sealOf(v, payload))
			stands(t, l, api.LinkState{Peer: 1, Phase: closed, Version: version, Err: api.ErrOther, At: 11})
		}
	}
}

// A second hello is no message.
func TestP8_4OneHello(t *testing.T) {
	l := newLink(t, 0, 3, 1, 3)
	feeds(t, l, join(frameH(1, 3), frameH(1, 3), frameW()))
	stands(t, l, api.LinkState{Peer: 1, Phase: closed, Version: 2, Err: api.ErrOther, At: 11})
}

// says is one hello and what it is answered: OK with the version.
type says struct {
	payload []byte
	version int
	e       api.Errno
}

// hears feeds an end of replica 0 of 3 towards 1 a hello.
func hears(t *testing.T, mask int, c says) {
	t.Helper()
	want := api.LinkState{Peer: 1, Phase: settled, Version: c.version}
	if c.e != api.OK {
		want = api.LinkState{Peer: 1, Phase: closed, Err: c.e}
	}
	l := newLink(t, 0, 3, 1, mask)
	feeds(t, l, sealOf(0, c.payload))
	stands(t, l, want)
	if t.Failed() {
		t.Fatalf("the mask was %d, the hello's payload %x", mask, c.payload)
	}
}

func TestP8_5HelloAlone(t *testing.T) {
	for _, c := range []says{
		{numbers(1, 3, 1), 1, api.OK},
		{numbers(1, 3, 2), 2, api.OK},
		{numbers(1, 3, 3), 2, api.OK},
		{numbers(1, 2, 3), 0, api.ErrLinkSize},
		{numbers(1, 4, 3), 0, api.ErrLinkSize},
		{numbers(1, 0, 3), 0, api.ErrLinkSize},
		{numbers(1, 259, 3), 0, api.ErrLinkSize},
		{numbers(1, 1<<32+3, 3), 0, api.ErrLinkSize},
		{numbers(1, math.MaxUint64, 3), 0, api.ErrLinkSize},
		{numbers(0, 3, 3), 0, api.ErrLinkPeer},
		{numbers(2, 3, 3), 0, api.ErrLinkPeer},
		{numbers(3, 3, 3), 0, api.ErrLinkPeer},
		{numbers(257, 3, 3), 0, api.ErrLinkPeer},
		{numbers(1<<32+1, 3, 3), 0, api.ErrLinkPeer},
		{numbers(math.MaxUint64, 3, 3), 0, api.ErrLinkPeer},
		{numbers(1, 3, 0), 0, api.ErrLinkCommon},
		{numbers(1, 3, 4), 0, api.ErrLinkCommon},
		{numbers(1, 3, math.MaxUint64-3), 0, api.ErrLinkCommon},
		{join(numbers(1, 3, 3), []byte{0}), 0, api.ErrLinkRest},
		{join(numbers(1, 3, 3), numbers(1, 3, 3)), 0, api.ErrLinkRest},
		{nil, 0, api.ErrShort},
	} {
		hears(t, 3, c)
	}
	hears(t, 1, says{numbers(1, 3, 2), 0, api.ErrLinkCommon})
	hears(t, 2, says{numbers(1, 3, 1), 0, api.ErrLinkCommon})
	hears(t, 2, says{numbers(1, 3, 5), 0, api.ErrLinkCommon})
	hears(t, 1, says{numbers(1, 3, 3), 1, api.OK})
	hears(t, 2, says{numbers(1, 3, 3), 2, api.OK})
}

// unreadable are bytes that are no number, in each of chapter 1's ways; those that are too short end the payload.
func unreadable() []says {
	return []says{
		{nil, 0, api.ErrShort}, {[]byte{0x80}, 0, api.ErrShort}, {run(0xff, 9), 0, api.ErrShort},
		{raw("80 00"), 0, api.ErrForm}, {raw("81 80 00"), 0, api.ErrForm}, {run(0x80, 9, 0), 0, api.ErrForm},
		{run(0xff, 9, 2), 0, api.ErrWide}, {run(0x80, 9, 0x80), 0, api.ErrWide}, {run(0xff, 11), 0, api.ErrWide},
	}
}

// A number that can't be read, at each place, behind numbers that are right or wrong: it is ahead of all that they might say.
func TestP8_5HelloUnreadable(t *testing.T) {
	for _, u := range unreadable() {
		for place := range 3 {
			for _, ahead := range [][]uint64{{1, 3}, {2, 3}, {1, 5}, {0, math.MaxUint64}} {
				for _, behind := range [][]byte{nil, {3}, {3, 3}, {0, 0, 0}, {9, 9, 9, 9}, {0x80, 0}, run(0xff, 12)} {
					if u.e == api.ErrShort && len(behind) > 0 {
						continue
					}
					hears(t, 3, says{join(numbers(ahead[:place]...), u.payload, behind), 0, u.e})
				}
			}
		}
	}
}

// Two numbers can't be read: the first one's error is told.
func TestP8_5HelloTwoUnreadable(t *testing.T) {
	for _, first := range unreadable()[3:] {
		for _, second := range unreadable() {
			for between := range 2 {
				hears(t, 3, says{join(first.payload, numbers(3)[:between], second.payload), 0, first.e})
				hears(t, 3, says{join(numbers(1), first.payload, second.payload), 0, first.e})
			}
		}
	}
}

// Every two things amiss that may be together, by the chapter's order.
func TestP8_5HelloOrder(t *testing.T) {
	for _, c := range []says{
		{numbers(2, 5, 3), 0, api.ErrLinkSize},
		{numbers(1, 5, 0), 0, api.ErrLinkSize},
		{join(numbers(1, 5, 3), []byte{0}), 0, api.ErrLinkSize},
		{numbers(2, 3, 0), 0, api.ErrLinkPeer},
		{join(numbers(2, 3, 3), []byte{0}), 0, api.ErrLinkPeer},
		{join(numbers(1, 3, 0), []byte{0}), 0, api.ErrLinkCommon},
		{join(numbers(2, 5, 0), []byte{0}), 0, api.ErrLinkSize},
		{numbers(2, 5), 0, api.ErrShort},
		{numbers(2), 0, api.ErrShort},
	} {
		hears(t, 3, c)
	}
}

// All hellos made of some numbers, good and bad, against the model.
func TestP8_5AllHellos(t *testing.T) {
	var items [][]byte
	for _, x := range []uint64{0, 1, 2, 3, 4, 7, 128, 1<<32 + 1, 1<<32 + 3, 1 << 63, math.MaxUint64} {
		items = append(items, numbers(x))
	}
	for _, u := range unreadable()[1:] {
		items = append(items, u.payload)
	}
	for _, a := range items {
		for _, b := range items {
			for _, c := range items {
				for _, rest := range [][]byte{nil, {0}, {0x80}} {
					payload := join(a, b, c, rest)
					for mask := 1; mask <= 3; mask++ {
						x := end{0, 3, 1, mask}
						v, e := x.greet(payload)
						hears(t, mask, says{payload, v, e})
					}
				}
			}
		}
	}
}

// Every beginning of a hello's payload.
func TestP8_5HelloBeginnings(t *testing.T) {
	whole := numbers(1, 3, 1<<40+3)
	for i := range whole {
		hears(t, 3, says{whole[:i], 0, api.ErrShort})
	}
	hears(t, 3, says{whole, 2, api.OK})
}

func TestP8_5HighBitsOfMasks(t *testing.T) {
	for bit := 2; bit < 64; bit++ {
		for low := uint64(0); low < 4; low++ {
			for mask := 1; mask <= 3; mask++ {
				c := says{numbers(1, 3, 1<<bit+low), chooseOf(mask, int(low)), api.OK}
				if c.version == 0 {
					c.e = api.ErrLinkCommon
				}
				hears(t, mask, c)
			}
		}
	}
}

// A hello is measured by what the end was made for.
func TestP8_5HelloOfEveryEnd(t *testing.T) {
	eachPair(func(id, n, peer int) {
		for mask := 1; mask <= 3; mask++ {
			x := end{id, n, peer, mask}
			for saidId := range 8 {
				for saidN := range 9 {
					for saidMask := range 5 {
						x.holds(t, helloOf(saidId, saidN, saidMask))
					}
				}
			}
		}
	})
}

// bad are payloads that are no message at a version among three, with chapter 5's errors.
func bad(v int) []says {
	if v == 1 {
		return []says{
			{nil, 0, api.ErrShort}, {raw("04 01 05 02"), 0, api.ErrShort}, {raw("09 01 05"), 0, api.ErrMsgKind}, {raw("09 29"), 0, api.ErrMsgKind},
			{raw("04 03 05 02 00"), 0, api.ErrMsgInst}, {raw("04 01 05 02 03"), 0, api.ErrMsgBallot}, {raw("04 01 05 02 00 00"), 0, api.ErrMsgRest},
			{raw("04 81 00 05 02 00"), 0, api.ErrForm}, {join([]byte{4}, run(0xff, 12)), 0, api.ErrWide},
			{raw("05 01 05 06 00 00 01 6B 01 6C 01 00 00 00"), 0, api.ErrKind}, {numbers(1, 3, 3), 0, api.ErrMsgInst},
		}
	}
	return []says{
		{nil, 0, api.ErrShort}, {raw("04 29"), 0, api.ErrShort}, {raw("0A"), 0, api.ErrMsgKind}, {raw("00"), 0, api.ErrMsgKind},
		{raw("04 2B 10"), 0, api.ErrMsgInst}, {raw("04 01 10"), 0, api.ErrMsgInst}, {raw("04 29 13"), 0, api.ErrMsgBallot},
		{raw("04 29 10 00"), 0, api.ErrMsgRest}, {raw("07 29 10 06"), 0, api.ErrMsgVote}, {raw("07 29 10 05 0A"), 0, api.ErrMsgVote},
		{raw("09 A9 00"), 0, api.ErrForm}, {join([]byte{9}, run(0xff, 12)), 0, api.ErrWide}, {raw("05 29 00 01"), 0, api.ErrMsgSeq},
		{raw("05 29 00 00 01 02"), 0, api.ErrMsgDeps}, {raw("05 29 00 00 08"), 0, api.ErrMask},
	}
}

// A message that is refused, behind 0 to 3 good ones, in their chunk or in one of its own, with good ones behind it.
func TestP8_5BadMessages(t *testing.T) {
	for _, version := range []int{1, 2} {
		good, m := [][]byte{frameC(), frameW()}[version-1], []api.Msg{accepted, wanting}[version-1]
		for _, c := range bad(version) {
			if _, e := msg.Decode(version, 3, c.payload); e != c.e {
				t.Fatalf("Decode(%d, 3, %x) = %d, want %d", version, c.payload, e, c.e)
			}
			for ahead := range 4 {
				want := slices.Repeat([]api.Msg{m}, ahead)
				s := api.LinkState{Peer: 1, Phase: closed, Version: version, Err: c.e, At: 11 + ahead*len(good)}
				l := settledLink(t, version)
				feeds(t, l, join(bytes.Repeat(good, ahead), sealOf(version, c.payload), good, good), want...)
				stands(t, l, s)
				l = settledLink(t, version)
				feeds(t, l, bytes.Repeat(good, ahead), want...)
				feeds(t, l, sealOf(version, c.payload))
				stands(t, l, s)
				feeds(t, l, good)
				stands(t, l, s)
				l = newLink(t, 0, 3, 1, 3)
				feeds(t, l, join(frameH(1, version), bytes.Repeat(good, ahead), sealOf(version, c.payload)), want...)
				stands(t, l, s)
			}
		}
	}
}

// Messages ahead of every kind of byte amiss are answered, whatever stands behind it.
func TestP8_5MessagesAheadOfAFault(t *testing.T) {
	for _, f := range faults(2, frameW()) {
		for _, behind := range [][]byte{nil, frameW(), {0}, frameH(1, 3)} {
			l := newLink(t, 0, 3, 1, 3)
			feeds(t, l, join(frameH(1, 3), frameW(), frameW(), f.begin, []byte{f.x}, behind), wanting, wanting)
			stands(t, l, api.LinkState{Peer: 1, Phase: closed, Version: 2, Err: f.e, At: 31})
		}
	}
}

// What is a message hangs on how many replicas there are.
func TestP8_5MessagesAmongN(t *testing.T) {
	for n := 2; n <= 7; n++ {
		for row := range 8 {
			for version := 1; version <= 2; version++ {
				payload := numbers(6, uint64(row), 5, 2, 0)
				if version == 2 {
					payload = numbers(6, uint64(8*5+row), 16)
				}
				x := end{0, n, 1, version}
				x.holds(t, helloOf(1, n, version), sealOf(version, payload))
				l := newLink(t, 0, n, 1, version)
				if got := l.Feed(join(helloOf(1, n, version), sealOf(version, payload))); (len(got) == 1) != (row < n) {
					t.Errorf("a message of row %d among %d is answered by %s", row, n, short(got))
				}
			}
		}
	}
}

func TestP8_5ClosedForGood(t *testing.T) {
	for _, begin := range [][]byte{{0}, frameW(), frameH(2, 3), frameH(1, 4), join(frameH(1, 3), []byte{0}), join(frameH(1, 1), frameC(), sealOf(1, nil))} {
		l := newLink(t, 0, 3, 1, 3)
		l.Feed(begin)
		s := l.State()
		if s.Phase != closed {
			t.Errorf("%x leaves the end open", begin)
		}
		for _, chunk := range [][]byte{nil, {}, {0}, frameH(1, 3), frameW(), frameC(), join(frameH(1, 3), frameW()), bytes.Repeat(frameC(), 50)} {
			feeds(t, l, chunk)
			stands(t, l, s)
		}
	}
}

// cuts feeds the same bytes cut in many ways.
func (x end) cuts(t *testing.T, b []byte) {
	t.Helper()
	x.holds(t, b)
	for i := range len(b) + 1 {
		x.holds(t, b[:i], nil, b[i:])
	}
	x.holds(t, slices.Collect(slices.Chunk(b, 1))...)
	var spaced [][]byte
	for i := range b {
		spaced = append(spaced, nil, b[i:i+1], []byte{})
	}
	x.holds(t, spaced...)
}

func TestP8_6EveryCut(t *testing.T) {
	x := end{0, 3, 1, 3}
	for _, b := range [][]byte{
		join(frameH(1, 3), frameW(), frameW(), frameW()[:4]),
		join(frameH(1, 3), frameW(), frameW(), frameW()[:4], frameC()),
		join(frameH(1, 1), frameC(), frameC(), frameC()),
		join(frameH(1, 1), frameC(), frameW(), frameC()),
		join(frameH(1, 3), frameW(), sealOf(2, raw("0A")), frameW()),
		join(frameH(1, 3), frameW(), sealOf(2, nil), frameW()),
		join(frameH(1, 3), frameW(), frameH(1, 3), frameW()),
		join(frameH(2, 3), frameW(), frameW()),
		join(frameH(1, 4), frameW(), frameW()),
		join(sealOf(0, raw("01 03 80")), frameW()),
		join(sealOf(0, raw("01 03 03 00")), frameW()),
		join(frameW(), frameH(1, 3), frameW()),
		raw("4D 54 00 80 80 41 00 00"),
	} {
		x.cuts(t, b)
		for i := range b {
			x.holds(t, b[:i])
		}
	}
}

// Two cuts at all places.
func TestP8_6TwoCuts(t *testing.T) {
	x := end{0, 3, 1, 3}
	b := join(frameH(1, 3), frameW(), frameW(), frameC())
	for i := range len(b) + 1 {
		for j := i; j <= len(b); j++ {
			x.holds(t, b[:i], b[i:j], b[j:])
		}
	}
}

func TestP8_6EveryMessageCut(t *testing.T) {
	for version := 1; version <= 2; version++ {
		for _, n := range []int{2, 3, 7} {
			x := end{1, n, 0, version}
			for _, m := range messages(version, n) {
				payload, e := msg.Encode(version, n, m)
				if e != api.OK {
					t.Fatalf("Encode(%d, %d, %s) = %d", version, n, short([]api.Msg{m}), e)
				}
				b := join(helloOf(0, n, version), sealOf(version, payload))
				for i := range len(b) + 1 {
					x.holds(t, b[:i], b[i:])
					x.holds(t, b[:i])
				}
			}
		}
	}
}

// Flows of messages, whole and spoilt, cut anyhow.
func TestP8_6Flows(t *testing.T) {
	d := dice(86)
	phases := map[int]int{}
	for range 4000 {
		x := d.anyEnd()
		b := d.flow(x, d.below(12))
		x.holds(t, b)
		x.holds(t, d.cut(b, pick(&d, []int{1, 2, 9, 60, 400}))...)
		_, s := x.reads(b)
		phases[10*s.Phase+s.Version]++
		if t.Failed() {
			t.FailNow()
		}
	}
	for _, key := range []int{10*settled + 1, 10*settled + 2, 10 * closed, 10*closed + 1, 10*closed + 2} {
		if phases[key] < 50 {
			t.Errorf("only %d flows came to phase and version %d", phases[key], key)
		}
	}
}

// Bytes that are hardly ever frames.
func TestP8_6AnyBytes(t *testing.T) {
	d := dice(861)
	telling := []byte{0, 1, 2, 3, 0x40, 0x4d, 0x54, 0x7f, 0x80, 0xff}
	for range 20000 {
		x := d.anyEnd()
		b := join(helloOf(x.peer, x.n, 3), []byte("MT"))[:pick(&d, []int{0, 2, 3, 4, 11, 13})]
		for range d.below(12) {
			b = append(b, pick(&d, telling))
		}
		x.holds(t, b)
		x.holds(t, d.cut(b, 3)...)
	}
}

// However few bytes there are behind a hello, no message comes ahead of it.
func TestP8_6NoMessageAheadOfAHello(t *testing.T) {
	for _, ahead := range [][]byte{frameW(), frameC(), sealOf(0, raw("09 29")), sealOf(0, raw("04 01 05 02 00")), sealOf(0, nil), {'M'}} {
		l := newLink(t, 0, 3, 1, 3)
		feeds(t, l, join(ahead, frameW(), frameC(), frameH(1, 3), frameW()))
		feeds(t, l, frameH(1, 3))
		feeds(t, l, frameW())
		if s := l.State(); s.Phase != closed || s.Version != 0 {
			t.Errorf("%x leaves %+v", ahead, s)
		}
	}
}

// Held goes up by one a byte, and is 0 again at each frame's end.
func TestP8_7HeldAtEveryByte(t *testing.T) {
	for version := 1; version <= 2; version++ {
		l := newLink(t, 1, 3, 0, version)
		want := api.LinkState{}
		frames := [][]byte{helloOf(0, 3, version)}
		for _, m := range messages(version, 3) {
			payload, _ := msg.Encode(version, 3, m)
			frames = append(frames, sealOf(version, payload))
		}
		for _, f := range frames {
			for i := range f {
				want.Held = i
				stands(t, l, want)
				l.Feed(f[i : i+1])
			}
			want = api.LinkState{Phase: settled, Version: version}
			stands(t, l, want)
		}
	}
}

// Many whole frames in one chunk: none is left behind it.
func TestP8_7NoWholeFrameIsLeft(t *testing.T) {
	for rest := range 10 {
		for count := range 20 {
			l := newLink(t, 0, 3, 1, 3)
			feeds(t, l, join(frameH(1, 3), bytes.Repeat(frameW(), count), frameW()[:rest]), slices.Repeat([]api.Msg{wanting}, count)...)
			stands(t, l, api.LinkState{Peer: 1, Phase: settled, Version: 2, Held: rest})
			feeds(t, l, nil)
		}
	}
}

// The longest frames: up to the last byte all is held, MaxPayload + 9 bytes at most.
func TestP8_7LongestFrames(t *testing.T) {
	d := dice(87)
	long := make([]byte, topPayload)
	copy(long, numbers(1, 3, 3))
	for _, c := range []struct {
		phase int
		f     []byte
		e     api.Errno
	}{{greeting, sealOf(0, long), api.ErrLinkRest}, {settled, sealOf(2, long), api.ErrMsgInst}} {
		l, s := newLink(t, 0, 3, 1, 3), api.LinkState{Peer: 1}
		if c.phase == settled {
			l, s = settledLink(t, 2), api.LinkState{Peer: 1, Phase: settled, Version: 2, At: 11}
		}
		place := s.At
		s.At = 0
		last := len(c.f) - 1
		for _, chunk := range d.cut(c.f[:last], 50000) {
			feeds(t, l, chunk)
			s.Held += len(chunk)
			stands(t, l, s)
		}
		if s.Held != topPayload+9 {
			t.Errorf("%d bytes are held", s.Held)
		}
		feeds(t, l, c.f[last:])
		stands(t, l, api.LinkState{Peer: 1, Phase: closed, Version: s.Version, Err: c.e, At: place})
	}
}

// The longest command of version 2 comes through.
func TestP8_7LongMessages(t *testing.T) {
	d := dice(871)
	cas := api.Cmd{Kind: api.Cas, Client: 65535, Req: 1 << 30, Key: text(64), Old: text(65536), Val: text(65536)}
	m := api.Msg{Kind: 5, Inst: api.Inst{Row: 2, Num: 1 << 20}, Cmd: cas, Seq: 1, Deps: []int{1, 2, 3}}
	b, e := settledLink(t, 2).Send(m)
	if e != api.OK {
		t.Fatal(e)
	}
	for range 5 {
		l := settledLink(t, 2)
		var got []api.Msg
		for _, chunk := range d.cut(join(b, frameW(), b, b[:100]), 30000) {
			got = append(got, l.Feed(chunk)...)
		}
		if !same(got, []api.Msg{m, wanting, m}) {
			t.Errorf("%s came", short(got))
		}
		stands(t, l, api.LinkState{Peer: 1, Phase: settled, Version: 2, Held: 100})
	}
}

// Places far behind the beginning.
func TestP8_5PlacesCountFromTheBeginning(t *testing.T) {
	d := dice(85)
	for _, count := range []int{0, 1, 100, 30000} {
		t.Run(fmt.Sprint(count), func(t *testing.T) {
			l := newLink(t, 0, 3, 1, 3)
			for _, chunk := range d.cut(join(frameH(1, 3), bytes.Repeat(frameW(), count), []byte("MT"), []byte{2, 0x80}), 5000) {
				l.Feed(chunk)
			}
			stands(t, l, api.LinkState{Peer: 1, Phase: settled, Version: 2, Held: 4})
			feeds(t, l, []byte{0, 'M'})
			stands(t, l, api.LinkState{Peer: 1, Phase: closed, Version: 2, Err: api.ErrForm, At: 11 + 10*count})
		})
	}
}
