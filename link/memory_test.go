package link_test

import (
	"bytes"
	"slices"
	"testing"

	"moot/api"
	"moot/msg"
)

// room is a list with much spare room, and the whole that it is cut out of.
func room[T any](list []T, mark T) (cut, whole []T) {
	whole = append([]T{mark}, list...)
	for range 40 {
		whole = append(whole, mark)
	}
	return whole[1 : 1+len(list)], whole
}

// spoil writes x over a list and its spare room.
func spoil[T any](list []T, x T) {
	list = list[:cap(list)]
	for i := range list {
		list[i] = x
	}
}

// checkOwn writes every list full with a mark of its own, spare room and all: where two share memory a mark is lost.
func checkOwn[T any](t *testing.T, lists [][]T, mark func(i int) T, is func(x T, i int) bool) {
	t.Helper()
	for i, l := range lists {
		spoil(l, mark(i))
	}
	for i, l := range lists {
		for _, x := range l[:cap(l)] {
			if !is(x, i) {
				t.Errorf("list %d shares memory with another", i)
				break
			}
		}
	}
}

func ownBytes(t *testing.T, lists [][]byte) {
	t.Helper()
	if len(lists) > 256 {
		t.Fatalf("%d lists are too many for a mark each", len(lists))
	}
	checkOwn(t, lists, func(i int) byte { return byte(i) }, func(x byte, i int) bool { return x == byte(i) })
}

func ownInts(t *testing.T, lists [][]int) {
	t.Helper()
	checkOwn(t, lists, func(i int) int { return -1 - i }, func(x, i int) bool { return x == -1-i })
}

// bytesOf are all messages of a version among three, in frames, one behind the other.
func bytesOf(version int) []byte {
	var b []byte
	for _, m := range messages(version, 3) {
		payload, _ := msg.Encode(version, 3, m)
		b = append(b, sealOf(version, payload)...)
	}
	return b
}

// Chunks, and the bytes around them, stay as they were; they may change behind the call.
func TestP8_10Chunks(t *testing.T) {
	d := dice(810)
	for range 300 {
		x := d.anyEnd()
		b := d.flow(x, 6)
		l := newLink(t, x.id, x.n, x.peer, x.mask)
		var got []api.Msg
		for _, piece := range d.cut(b, pick(&d, []int{1, 7, 60, 5000})) {
			chunk, whole := room(piece, 0xee)
			was := bytes.Clone(whole)
			got = append(got, l.Feed(chunk)...)
			l.State()
			spoil(l.Hello(), 0x11)
			if !bytes.Equal(whole, was) {
				t.Fatalf("the chunk %x became %x", was, whole)
			}
			spoil(whole, 0x77)
		}
		want, s := x.reads(b)
		stands(t, l, s)
		if !same(got, want) {
			t.Fatalf("%s came, want %s", short(got), short(want))
		}
	}
}

// Spare room behind a chunk is none of it.
func TestP8_10SpareRoomIsNotRead(t *testing.T) {
	x := end{0, 3, 1, 3}
	for _, b := range [][]byte{join(frameH(1, 3), frameW(), frameW()), join(frameH(1, 1), frameC(), frameC())} {
		for i := range b {
			x.holds(t, b[:i:len(b)])
			x.holds(t, b[:i:len(b)], b[i:])
		}
	}
}

// Messages answered outlive what is done with the chunk, with other answers, and with the end.
func TestP8_10MessagesOutliveTheirBytes(t *testing.T) {
	for version := 1; version <= 2; version++ {
		l := settledLink(t, version)
		b := bytesOf(version)
		got := l.Feed(b)
		spoil(b, 0xee)
		other := l.Feed(bytesOf(version))
		for i := range other {
			spoil(other[i].Deps, -1)
		}
		spoil(other, api.Msg{Kind: 99})
		l.Feed([]byte{0, 0})
		if !same(got, messages(version, 3)) {
			t.Errorf("%s are left", short(got))
		}
	}
}

func TestP8_10Hellos(t *testing.T) {
	l, twin := newLink(t, 0, 3, 1, 3), newLink(t, 0, 3, 1, 3)
	var lists [][]byte
	for _, chunk := range [][]byte{nil, frameH(1, 3)[:5], frameH(1, 3)[5:], frameW(), {0}, nil} {
		l.Feed(chunk)
		lists = append(lists, l.Hello(), l.Hello(), twin.Hello())
	}
	ownBytes(t, lists)
	for range 3 {
		greets(t, l, frameH(0, 3))
		greets(t, twin, frameH(0, 3))
		spoil(append(l.Hello(), 1, 2, 3), 0xee)
	}
}

func TestP8_10Frames(t *testing.T) {
	for version := 1; version <= 2; version++ {
		l, twin := settledLink(t, version), settledLink(t, version)
		var lists [][]byte
		for _, m := range messages(version, 3) {
			for range 3 {
				a, _ := l.Send(m)
				b, _ := twin.Send(m)
				lists = append(lists, a, b)
			}
		}
		lists = append(lists, l.Hello(), twin.Hello())
		ownBytes(t, lists)
		for _, m := range messages(version, 3) {
			payload, _ := msg.Encode(version, 3, m)
			sends(t, l, m, sealOf(version, payload))
		}
	}
}

// A message's list, and the numbers around it, stay as they were; the frame outlives their change, and the next one sees it.
func TestP8_10SentMessages(t *testing.T) {
	for version := 1; version <= 2; version++ {
		for _, l := range []interface {
			Send(api.Msg) ([]byte, api.Errno)
		}{settledLink(t, version), newLink(t, 0, 3, 1, 3)} {
			for _, m := range append(messages(version, 3), wrong()[api.ErrMsgDeps], wrong()[api.ErrMsgSeq], api.Msg{Deps: []int{1, 2}}) {
				before, e := l.Send(m)
				deps, whole := room(m.Deps, -77)
				m.Deps = deps
				was, list := m, slices.Clone(whole)
				b, f := l.Send(m)
				if !slices.Equal(whole, list) || !same([]api.Msg{m}, []api.Msg{was}) {
					t.Errorf("%s became %s, its list %v became %v", short([]api.Msg{was}), short([]api.Msg{m}), list, whole)
				}
				spoil(whole, -1)
				if !bytes.Equal(before, b) || e != f {
					t.Errorf("Send = %x, %d, then %x, %d once the list was written over", before, e, b, f)
				}
				if _, e := l.Send(m); f == api.OK && len(m.Deps) > 0 && e != api.ErrMsgDeps {
					t.Errorf("Send of a list that was changed = %d", e)
				}
			}
		}
	}
}

// Lists of messages, spare room too: of one end, asked again and again, and of another.
func TestP8_10ListsOfMessages(t *testing.T) {
	for version := 1; version <= 2; version++ {
		l, twin := settledLink(t, version), settledLink(t, version)
		var lists [][]api.Msg
		for count := range 12 {
			b := bytes.Repeat(bytesOf(version), count%4)
			b = append(b, [][]byte{frameC(), frameW()}[version-1]...)
			lists = append(lists, l.Feed(b), twin.Feed(b), l.Feed(nil))
		}
		checkOwn(t, lists, func(i int) api.Msg { return api.Msg{Kind: -1 - i} }, func(m api.Msg, i int) bool { return m.Kind == -1-i })
		feeds(t, l, bytesOf(version), messages(version, 3)...)
		feeds(t, twin, bytesOf(version), messages(version, 3)...)
	}
}

// The Deps of messages, within one answer and in several.
func TestP8_10DepsOfMessages(t *testing.T) {
	for version := 1; version <= 2; version++ {
		l, twin := settledLink(t, version), settledLink(t, version)
		var lists [][]int
		for range 4 {
			b := join(bytesOf(version), bytesOf(version))
			for _, m := range append(l.Feed(b), twin.Feed(b)...) {
				lists = append(lists, m.Deps)
			}
		}
		ownInts(t, lists)
		feeds(t, l, bytesOf(version), messages(version, 3)...)
		feeds(t, twin, bytesOf(version), messages(version, 3)...)
	}
}

// Whatever is appended to what was handed out, no later answer shows it.
func TestP8_10Appends(t *testing.T) {
	l := settledLink(t, 2)
	first := l.Feed(join(frameW(), frameW(), frameW()))
	_ = append(first, accepted, accepted)
	_ = append(first[:1], accepted)
	feeds(t, l, join(frameW(), frameW(), frameW()), wanting, wanting, wanting)
	b, _ := l.Send(wanting)
	_ = append(b, 1, 2, 3, 4)
	sends(t, l, wanting, frameW())
}
