package msg_test

import (
	"bytes"
	"slices"
	"strings"
	"testing"

	"moot/api"
	"moot/msg"
)

// room is a list with much spare room, and the whole that it is cut out of.
func room[T any](list []T, mark T) (cut, whole []T) {
	whole = append([]T{mark}, list...)
	for range 20 {
		whole = append(whole, mark)
	}
	return whole[1 : 1+len(list)], whole
}

// spoil writes x over a list and its spare room.
func spoil[T any](list []T, x T) {
	list = list[:cap(list)]
	for i := range list {
		list[i] = x
	}
}

// checkOwn writes every list full with a mark of its own, spare room and all: where two share memory a mark is lost.
func checkOwn[T comparable](t *testing.T, lists [][]T, mark func(i int) T) {
	t.Helper()
	for i, l := range lists {
		spoil(l, mark(i))
	}
	for i, l := range lists {
		for _, x := range l[:cap(l)] {
			if x != mark(i) {
				t.Errorf("list %d shares memory with another", i)
				break
			}
		}
	}
}

// handed are messages for the calls, valid ones and others.
func handed() []api.Msg {
	out := append(sizedExamples(2, 3), api.Msg{Deps: []int{9}}, api.Msg{Kind: 10, Deps: []int{1, 2, 3}})
	for _, m := range examples(3) {
		m.Deps = []int{1, -1, topNum + 1}
		out = append(out, m)
	}
	return out
}

func TestP5_7MessagesStay(t *testing.T) {
	for _, m := range handed() {
		deps, whole := room(m.Deps, -77)
		m.Deps = deps
		was, list := m, slices.Clone(whole)
		for v := range 4 {
			for _, n := range []int{0, 1, 3, 7, 8} {
				msg.Check(v, n, m)
				b, _ := msg.Encode(v, n, m)
				spoil(b, 0xee)
				msg.Lowest(n, m)
			}
		}
		if !slices.Equal(whole, list) || !same(m, was) {
			t.Errorf("%s became %s, its list %v became %v", short(was), short(m), list, whole)
		}
	}
}

// What is asked next doesn't see what the list was before.
func TestP5_7MessagesAreNotKept(t *testing.T) {
	m := example(5, 0, 3)
	checks(t, 2, 3, m, api.OK)
	b := encoded(t, 2, 3, m)
	was := bytes.Clone(b)
	spoil(m.Deps, -1)
	checks(t, 2, 3, m, api.ErrMsgDeps)
	if !bytes.Equal(b, was) {
		t.Errorf("the bytes %x became %x with the message's list", was, b)
	}
	spoil(m.Deps, 4)
	decodes(t, 2, 3, encoded(t, 2, 3, m), m, api.OK)
}

// Spare room behind the list is none of it.
func TestP5_7SpareRoomIsNotRead(t *testing.T) {
	m := example(5, 0, 3)
	m.Deps = filled(5, 3)[:2]
	checks(t, 2, 3, m, api.ErrMsgDeps)
	eachForm(func(v int, f form, b []byte) {
		for i := range b {
			refuses(t, v, f.n, b[:i:len(b)], api.ErrShort)
		}
		longer := join(b, []byte{0, 0})
		decodes(t, v, f.n, longer[:len(b)], f.m, api.OK)
	})
}

func TestP5_7FormsAreNewMemory(t *testing.T) {
	eachSize(func(v, n int) {
		var lists [][]byte
		for _, m := range sizedExamples(v, n) {
			lists = append(lists, encoded(t, v, n, m), encoded(t, v, n, m))
		}
		checkOwn(t, lists, func(i int) byte { return byte(0x80 + i) })
	})
	eachForm(func(v int, f form, want []byte) {
		if b := encoded(t, v, f.n, f.m); !bytes.Equal(b, want) {
			t.Errorf("Encode(%d, %d, %s) = %x once others were written over", v, f.n, short(f.m), b)
		}
	})
}

func TestP5_7DepsAreNewMemory(t *testing.T) {
	var lists [][]int
	eachForm(func(v int, f form, b []byte) {
		for range 3 {
			m, _ := msg.Decode(v, f.n, b)
			lists = append(lists, m.Deps)
		}
	})
	checkOwn(t, lists, func(i int) int { return -1 - i })
	eachForm(func(v int, f form, b []byte) { decodes(t, v, f.n, b, f.m, api.OK) })
}

func TestP5_7BytesStay(t *testing.T) {
	inputs := [][]byte{nil, {10}, {4, 0x80, 0}, run(0xff, 30), raw("05 29 00 00 01 02"), raw("07 29 10 01 01 00")}
	eachForm(func(v int, f form, b []byte) { inputs = append(inputs, b, b[:len(b)-1], join(b, []byte{0})) })
	for _, input := range inputs {
		b, whole := room(input, 0xee)
		was := bytes.Clone(whole)
		for v := range 4 {
			for n := range 9 {
				m, _ := msg.Decode(v, n, b)
				spoil(m.Deps, -1)
			}
		}
		if !bytes.Equal(whole, was) {
			t.Errorf("%x became %x", was, whole)
		}
	}
}

func TestP5_7MessagesOutliveTheirBytes(t *testing.T) {
	eachForm(func(v int, f form, b []byte) {
		m, _ := msg.Decode(v, f.n, b)
		spoil(b, 0xee)
		if !same(m, f.m) {
			t.Errorf("%s became %s with its bytes", short(f.m), short(m))
		}
	})
	long := example(3, 0, 3)
	long.Cmd = great
	b := encoded(t, 2, 3, long)
	m, _ := msg.Decode(2, 3, b)
	spoil(b, 0xee)
	if !same(m, long) {
		t.Errorf("a message with long texts changed with its bytes")
	}
}

// A message's texts may be pieces of a text that goes on behind them.
func TestP5_7TextsStay(t *testing.T) {
	for _, m := range sizedExamples(2, 3) {
		was := m
		m.Cmd.Key = strings.Clone(m.Cmd.Key + "more")[:len(m.Cmd.Key)]
		spoil(encoded(t, 2, 3, m), 0xee)
		if !same(m, was) {
			t.Errorf("%s became %s", short(was), short(m))
		}
	}
}

// What a call answers hangs on no call before it.
func TestP5_7CallsDoNotSeeOneAnother(t *testing.T) {
	eachForm(func(v int, f form, b []byte) {
		for _, bad := range [][]byte{nil, {10}, {4, 0x80, 0}, run(0xff, 30), raw("05 29 00 00 01 02"), raw("07 29 10 06")} {
			msg.Decode(3-v, f.n, bad)
			msg.Decode(v, f.n%7+1, bad)
			msg.Encode(v, f.n, api.Msg{Kind: 10})
			decodes(t, v, f.n, b, f.m, api.OK)
			if again := encoded(t, v, f.n, f.m); !bytes.Equal(again, b) {
				t.Errorf("Encode(%d, %d, %s) = %x behind other calls", v, f.n, short(f.m), again)
			}
		}
	})
}
