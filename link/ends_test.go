package link_test

import (
	"bytes"
	"testing"

	"moot/api"
	"moot/frame"
	"moot/link"
	"moot/msg"
)

// agreed is how two ends that heard one another stand, of one of them.
func agreed(peer, version int) api.LinkState {
	if version == 0 {
		return api.LinkState{Peer: peer, Phase: closed, Err: api.ErrLinkCommon}
	}
	return api.LinkState{Peer: peer, Phase: settled, Version: version}
}

func TestP8_11EveryPairOfMasks(t *testing.T) {
	want := [4][4]int{1: {0, 1, 0, 1}, 2: {0, 0, 2, 2}, 3: {0, 1, 2, 2}}
	eachPair(func(id, n, peer int) {
		for a := 1; a <= 3; a++ {
			for b := 1; b <= 3; b++ {
				x, y := newLink(t, id, n, peer, a), newLink(t, peer, n, id, b)
				feeds(t, x, y.Hello())
				feeds(t, y, x.Hello())
				stands(t, x, agreed(peer, want[a][b]))
				stands(t, y, agreed(id, want[a][b]))
			}
		}
	})
}

// An end settles with nobody but the peer that it was made for, of its own n. (A hello tells who sends it, not to whom.)
func TestP8_11NotForEachOther(t *testing.T) {
	for _, c := range []struct {
		y    end
		want api.LinkState
	}{
		{end{2, 5, 1, 3}, api.LinkState{Peer: 2, Phase: closed, Err: api.ErrLinkSize}},
		{end{0, 5, 1, 3}, api.LinkState{Peer: 2, Phase: closed, Err: api.ErrLinkSize}},
		{end{0, 3, 1, 3}, api.LinkState{Peer: 2, Phase: closed, Err: api.ErrLinkPeer}},
		{end{1, 3, 2, 3}, api.LinkState{Peer: 2, Phase: closed, Err: api.ErrLinkPeer}},
		{end{2, 3, 0, 3}, api.LinkState{Peer: 2, Phase: settled, Version: 2}},
	} {
		x, y := newLink(t, 1, 3, 2, 3), newLink(t, c.y.id, c.y.n, c.y.peer, c.y.mask)
		feeds(t, x, y.Hello())
		stands(t, x, c.want)
	}
}

// written is some messages of version v among n, and the bytes that an end sends of them.
func written(t *testing.T, d *dice, l *link.Link, v, n, count int) ([]api.Msg, []byte) {
	t.Helper()
	var list []api.Msg
	var all []byte
	for range count {
		m := d.message(v, n)
		b, e := l.Send(m)
		if e != api.OK {
			t.Fatalf("Send(%s) = %d", short([]api.Msg{m}), e)
		}
		list, all = append(list, m), append(all, b...)
	}
	return list, all
}

// Many messages in both directions, in any cut, the hello cut with them.
func TestP8_11ManyMessages(t *testing.T) {
	d := dice(811)
	for n := 2; n <= 7; n++ {
		for a := 1; a <= 3; a++ {
			for b := 1; b <= 3; b++ {
				v := chooseOf(a, b)
				if v == 0 {
					continue
				}
				// Twins hear a whole hello, so that they can write; what they write is then cut.
				x, y := newLink(t, 0, n, 1, a), newLink(t, 1, n, 0, b)
				twinX, twinY := newLink(t, 0, n, 1, a), newLink(t, 1, n, 0, b)
				feeds(t, twinX, y.Hello())
				feeds(t, twinY, x.Hello())
				fromX, bytesX := written(t, &d, twinX, v, n, 60)
				fromY, bytesY := written(t, &d, twinY, v, n, 60)
				arrives(t, x, d.cut(join(y.Hello(), bytesY), 1+d.below(300)), fromY)
				arrives(t, y, d.cut(join(x.Hello(), bytesX), 1+d.below(300)), fromX)
				stands(t, x, agreed(1, v))
				stands(t, y, agreed(0, v))
			}
		}
	}
}

func arrives(t *testing.T, l *link.Link, chunks [][]byte, want []api.Msg) {
	t.Helper()
	var got []api.Msg
	for _, chunk := range chunks {
		got = append(got, l.Feed(chunk)...)
	}
	if !same(got, want) {
		t.Errorf("%d messages came, %d were sent: %s, want %s", len(got), len(want), short(got), short(want))
	}
}

// Messages to and fro: what one end is fed doesn't touch what it sends.
func TestP8_11ToAndFro(t *testing.T) {
	d := dice(8112)
	for _, v := range []int{1, 2} {
		x, y := newLink(t, 4, 5, 2, 3), newLink(t, 2, 5, 4, v)
		feeds(t, x, y.Hello())
		feeds(t, y, x.Hello())
		for range 300 {
			m, back := d.message(v, 5), d.message(v, 5)
			b, _ := x.Send(m)
			c, _ := y.Send(back)
			half := d.below(len(b))
			feeds(t, y, b[:half])
			feeds(t, x, c, back)
			feeds(t, y, b[half:], m)
		}
	}
}

// anew is the frames of messages, made anew.
func anew(t *testing.T, version, n int, list []api.Msg) []byte {
	t.Helper()
	var b []byte
	for _, m := range list {
		payload, e := msg.Encode(version, n, m)
		if e != api.OK {
			t.Fatalf("Encode(%d, %d, %s) = %d", version, n, short([]api.Msg{m}), e)
		}
		f, e := frame.Seal(version, payload)
		if e != api.OK {
			t.Fatalf("Seal(%d, %d bytes) = %d", version, len(payload), e)
		}
		b = append(b, f...)
	}
	return b
}

// Flows, whole and spoilt, in small pieces: as long as the end is settled, what it answered is what came.
func TestP8_12OneForm(t *testing.T) {
	d := dice(812)
	looked := 0
	for range 1500 {
		x := d.anyEnd()
		b := d.flow(x, 8)
		l := newLink(t, x.id, x.n, x.peer, x.mask)
		var got []api.Msg
		came := 0
		for _, chunk := range d.cut(b, pick(&d, []int{1, 20, 100})) {
			got = append(got, l.Feed(chunk)...)
			came += len(chunk)
			s := l.State()
			if s.Phase != settled {
				continue
			}
			looked++
			const hello = 11
			if a := anew(t, s.Version, x.n, got); !bytes.Equal(a, b[hello:came-s.Held]) {
				t.Fatalf("%x came, but what was answered is written %x", b[hello:came-s.Held], a)
			}
		}
	}
	if looked < 5000 {
		t.Errorf("only %d looks at a settled end", looked)
	}
}

// Payloads of few telling bytes, each in a frame that is right: what is answered at all is written as it came.
func TestP8_12AnyPayload(t *testing.T) {
	d := dice(8121)
	answered := 0
	for range 60000 {
		version := 1 + d.below(2)
		payload := []byte{byte(d.below(11))}
		for range d.below(7) {
			payload = append(payload, pick(&d, []byte{0, 1, 2, 3, 5, 8, 9, 16, 0x29, 0x80, 0x81}))
		}
		l := newLink(t, 0, 3, 1, 3)
		b := sealOf(version, payload)
		got := l.Feed(join(frameH(1, version), b))
		if len(got) == 0 {
			continue
		}
		answered++
		if a := anew(t, version, 3, got); !bytes.Equal(a, b) {
			t.Fatalf("%x came, but what was answered is written %x", b, a)
		}
	}
	if answered < 500 {
		t.Errorf("only %d messages", answered)
	}
}
