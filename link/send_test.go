package link_test

import (
	"testing"

	"moot/api"
	"moot/frame"
	"moot/link"
	"moot/msg"
)

func TestP8_8Examples(t *testing.T) {
	l := newLink(t, 0, 3, 1, 3)
	refuses(t, l, wanting, api.ErrLinkPhase)
	feeds(t, l, frameH(1, 1))
	refuses(t, l, wanting, api.ErrMsgKind)
	sends(t, l, accepted, frameC())
	sends(t, settledLink(t, 2), wanting, join(raw("4D 54 02 02 09 29"), librarySum(raw("4D 54 02 02 09 29"))))
}

// wrong are messages that msg.Check refuses at both versions among three.
func wrong() map[api.Errno]api.Msg {
	x := api.Inst{Row: 1, Num: 5}
	return map[api.Errno]api.Msg{
		api.ErrMsgKind:   {Kind: 10, Inst: x},
		api.ErrMsgExtra:  {Kind: 4, Inst: api.Inst{Row: 3}, Seq: 1},
		api.ErrMsgInst:   {Kind: 4, Inst: api.Inst{Row: 3, Num: 5}, Bal: api.Ballot{Round: 2}},
		api.ErrMsgBallot: {Kind: 6, Inst: x, Bal: api.Ballot{Who: 1}},
		api.ErrMsgVote:   {Kind: 8, Inst: x, Bal: api.Ballot{Round: 2}, VBal: api.Ballot{Round: 2}},
		api.ErrMsgNoop:   {Kind: 1, Inst: x, Bal: api.Ballot{Who: 1}, Deps: []int{0, 0, 0}},
		api.ErrMsgSeq:    {Kind: 5, Inst: x, Seq: 1, Deps: []int{0, 0}},
		api.ErrMsgDeps:   {Kind: 5, Inst: x, Deps: []int{0, 0}},
		api.ErrKey:       {Kind: 5, Inst: x, Cmd: api.Cmd{Kind: api.Get}, Seq: 1, Deps: []int{0, 0, 0}},
		api.ErrReq:       {Kind: 5, Inst: x, Cmd: api.Cmd{Kind: api.Get, Req: -1, Key: "k"}, Seq: 1, Deps: []int{0, 0, 0}},
	}
}

func TestP8_8Refused(t *testing.T) {
	for version := 1; version <= 2; version++ {
		for e, m := range wrong() {
			if got := msg.Check(version, 3, m); got != e {
				t.Fatalf("Check(%d, 3, %s) = %d, want %d", version, short([]api.Msg{m}), got, e)
			}
			refuses(t, settledLink(t, version), m, e)
		}
	}
}

// The phase is looked at ahead of the message.
func TestP8_8PhaseFirst(t *testing.T) {
	all := append(messages(2, 3), api.Msg{})
	for _, m := range wrong() {
		all = append(all, m)
	}
	for _, b := range [][]byte{nil, frameH(1, 3)[:10], {0}, frameH(2, 3), join(frameH(1, 3), frameW(), []byte{0}), join(frameH(1, 1), sealOf(1, nil))} {
		l := newLink(t, 0, 3, 1, 3)
		l.Feed(b)
		if l.State().Phase == settled {
			t.Errorf("%x settles", b)
		}
		for _, m := range all {
			refuses(t, l, m, api.ErrLinkPhase)
		}
	}
}

// Messages of both versions, at ends of both, of all sizes.
func TestP8_8AllMessages(t *testing.T) {
	for n := 2; n <= 7; n++ {
		for version := 1; version <= 2; version++ {
			l := newLink(t, 0, n, 1, 3)
			feeds(t, l, helloOf(1, n, version))
			for _, m := range append(messages(1, n), messages(2, n)...) {
				checkSend(t, l, version, n, m)
			}
			for _, m := range append(messages(2, n%7+1), api.Msg{}) {
				checkSend(t, l, version, n, m)
			}
		}
	}
}

// checkSend holds Send against the packages below.
func checkSend(t *testing.T, l *link.Link, version, n int, m api.Msg) {
	t.Helper()
	if e := msg.Check(version, n, m); e != api.OK {
		refuses(t, l, m, e)
		return
	}
	payload, _ := msg.Encode(version, n, m)
	b, _ := frame.Seal(version, payload)
	sends(t, l, m, b)
	sends(t, l, m, sealOf(version, payload))
}

// What a version allows: a value of 1025 bytes is one of version 2.
func TestP8_8LongValues(t *testing.T) {
	m := api.Msg{Kind: 5, Inst: api.Inst{Row: 1, Num: 5}, Cmd: api.Cmd{Kind: api.Put, Key: "k"}, Seq: 1, Deps: []int{0, 0, 0}}
	for _, c := range []struct {
		version, size int
		e             api.Errno
	}{{1, 1024, api.OK}, {1, 1025, api.ErrVal}, {2, 1025, api.OK}, {2, 65536, api.OK}, {2, 65537, api.ErrVal}} {
		m.Cmd.Val = text(c.size)
		if c.e != api.OK {
			refuses(t, settledLink(t, c.version), m, c.e)
			continue
		}
		checkSend(t, settledLink(t, c.version), c.version, 3, m)
	}
}

// Send is called behind every byte, with good and bad messages, up to the end's closing: the end goes on as if it never were.
func TestP8_8SendChangesNothing(t *testing.T) {
	for version := 1; version <= 2; version++ {
		good := [][]byte{frameC(), frameW()}[version-1]
		b := join(frameH(1, version), good, good, sealOf(version, nil), good)
		l, asked := newLink(t, 0, 3, 1, 3), newLink(t, 0, 3, 1, 3)
		for i := range b {
			for _, m := range []api.Msg{accepted, wanting, {}, wrong()[api.ErrMsgDeps], messages(2, 3)[0]} {
				before := asked.State()
				first, e := asked.Send(m)
				again, f := asked.Send(m)
				if string(first) != string(again) || e != f {
					t.Errorf("Send(%s) = %x, %d, then %x, %d", short([]api.Msg{m}), first, e, again, f)
				}
				stands(t, asked, before)
			}
			feeds(t, asked, b[i:i+1], l.Feed(b[i:i+1])...)
			stands(t, asked, l.State())
		}
		if asked.State().Phase != closed {
			t.Errorf("the end is still open")
		}
	}
}

// Each field in each phase.
func TestP8_9Fields(t *testing.T) {
	for _, c := range []struct {
		b    []byte
		want api.LinkState
	}{
		{nil, api.LinkState{Peer: 4, Phase: greeting, Version: 0, Err: api.OK, At: 0, Held: 0}},
		{helloOf(4, 5, 3)[:9], api.LinkState{Peer: 4, Phase: greeting, Held: 9}},
		{helloOf(4, 5, 1), api.LinkState{Peer: 4, Phase: settled, Version: 1}},
		{helloOf(4, 5, 2), api.LinkState{Peer: 4, Phase: settled, Version: 2}},
		{join(helloOf(4, 5, 1), frameC()[:7]), api.LinkState{Peer: 4, Phase: settled, Version: 1, Held: 7}},
		{join(helloOf(4, 5, 3), frameW(), frameW()[:9]), api.LinkState{Peer: 4, Phase: settled, Version: 2, Held: 9}},
		{raw("4D 54 01"), api.LinkState{Peer: 4, Phase: closed, Err: api.ErrOther}},
		{helloOf(4, 3, 3), api.LinkState{Peer: 4, Phase: closed, Err: api.ErrLinkSize}},
		{helloOf(4, 5, 8), api.LinkState{Peer: 4, Phase: closed, Err: api.ErrLinkCommon}},
		{sealOf(0, raw("04 05 03 03")), api.LinkState{Peer: 4, Phase: closed, Err: api.ErrLinkRest}},
		{join(helloOf(4, 5, 1), frameC(), frameC()[:9], []byte{^frameC()[9]}), api.LinkState{Peer: 4, Phase: closed, Version: 1, Err: api.ErrSum, At: 24}},
		{join(helloOf(4, 5, 3), frameW(), frameW()[:5], []byte{0, 0, 0, 0}), api.LinkState{Peer: 4, Phase: closed, Version: 2, Err: api.ErrSum, At: 21}},
		{join(helloOf(4, 5, 3), sealOf(2, raw("09 2D"))), api.LinkState{Peer: 4, Phase: closed, Version: 2, Err: api.ErrMsgInst, At: 11}},
	} {
		l := newLink(t, 2, 5, 4, 3)
		l.Feed(c.b)
		stands(t, l, c.want)
		feeds(t, l, nil)
		stands(t, l, c.want)
	}
}

// A closed end holds nothing, however much it held when it closed.
func TestP8_9ClosedEndsHoldNothing(t *testing.T) {
	f := sealOf(2, make([]byte, 70000))
	for _, at := range []int{2, 70005, 70007, 70008, 70009} {
		l := settledLink(t, 2)
		feeds(t, l, f[:at])
		stands(t, l, api.LinkState{Peer: 1, Phase: settled, Version: 2, Held: at})
		if at == 70005 {
			continue // of the payload any byte goes on
		}
		feeds(t, l, []byte{^f[at]})
		s := api.LinkState{Peer: 1, Phase: closed, Version: 2, Err: api.ErrSum, At: 11}
		if at == 2 {
			s.Err = api.ErrOther
		}
		stands(t, l, s)
	}
}

// State is asked behind every byte of one end and of none of the other.
func TestP8_9StateChangesNothing(t *testing.T) {
	d := dice(89)
	for range 200 {
		x := d.anyEnd()
		b := d.flow(x, 5)
		l, asked := newLink(t, x.id, x.n, x.peer, x.mask), newLink(t, x.id, x.n, x.peer, x.mask)
		for i := range b {
			_, s := x.reads(b[:i])
			stands(t, asked, s)
			feeds(t, asked, b[i:i+1], l.Feed(b[i:i+1])...)
		}
		stands(t, asked, l.State())
	}
}

// What State hands out is a copy.
func TestP8_9StatesAreApart(t *testing.T) {
	l := settledLink(t, 2)
	s := l.State()
	s.Peer, s.Phase, s.Version, s.Err, s.At, s.Held = 2, closed, 1, api.ErrSum, 9, 9
	stands(t, l, api.LinkState{Peer: 1, Phase: settled, Version: 2})
	feeds(t, l, frameW(), wanting)
}
