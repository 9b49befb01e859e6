package command_test

import (
	"bytes"
	"slices"
	"strings"
	"testing"

	"moot/api"
	"moot/command"
)

// spoil writes x over a list and its spare room.
func spoil[T any](list []T, x T) {
	list = list[:cap(list)]
	for i := range list {
		list[i] = x
	}
}

// checkOwn writes every list full with a mark of its own, spare room and all: where two share memory a mark is lost.
func checkOwn[T comparable](t *testing.T, lists [][]T, mark func(i int) T) {
	t.Helper()
	for i, l := range lists {
		spoil(l, mark(i))
	}
	for i, l := range lists {
		for _, x := range l[:cap(l)] {
			if x != mark(i) {
				t.Errorf("list %d shares memory with another", i)
				break
			}
		}
	}
}

func TestP0_3FormsAreNewMemory(t *testing.T) {
	var lists [][]byte
	for kind := range 9 {
		for _, c := range []api.Cmd{plain(kind), full(kind), greatest(2, kind)} {
			lists = append(lists, encoded(t, 2, c), encoded(t, 2, c))
		}
	}
	checkOwn(t, lists, func(i int) byte { return byte(0x80 + i) })
	for _, f := range forms() {
		if b := encoded(t, 2, f.c); !bytes.Equal(b, f.b) {
			t.Errorf("Encode(2, %s) = %x once others were written over", short(f.c), b)
		}
	}
}

// A command's texts may be pieces of a text that goes on behind them.
func TestP0_3CommandsStay(t *testing.T) {
	for kind := range 9 {
		c := full(kind)
		was := c
		if kind > 0 {
			c.Key = strings.Clone(c.Key + "more")[:len(c.Key)]
		}
		spoil(encoded(t, 2, c), 0xee)
		spoil(command.Touches(c), api.Touch{Key: "x"})
		command.Conflict(c, c)
		if c != was {
			t.Errorf("%s became %s", short(was), short(c))
		}
	}
}

func TestP0_3TouchesAreNewMemory(t *testing.T) {
	var lists [][]api.Touch
	want := map[int][]api.Touch{}
	for kind := range 9 {
		want[kind] = slices.Clone(command.Touches(plain(kind)))
		lists = append(lists, command.Touches(plain(kind)), command.Touches(plain(kind)))
	}
	checkOwn(t, lists, func(i int) api.Touch { return api.Touch{Key: string(rune('A' + i))} })
	for kind := range 9 {
		checkTouches(t, plain(kind), want[kind]...)
	}
}

func TestP0_3BytesStay(t *testing.T) {
	inputs := [][]byte{nil, {9}, {1, 0x80, 0}, {8, 0, 0, 2, 'a', 'b', 0, 3, 'a', 'c', 'd'}, run(0xff, 30)}
	for _, f := range forms() {
		inputs = append(inputs, f.b, f.b[:len(f.b)-1])
	}
	for _, b := range inputs {
		whole := join([]byte{0xee}, b, run(0xee, 100))
		was := bytes.Clone(whole)
		for v := range 4 {
			command.Decode(v, whole[1:1+len(b)])
		}
		if !bytes.Equal(whole, was) {
			t.Errorf("%x became %x", was, whole)
		}
	}
}

// The spare room behind the bytes is none of them.
func TestP0_3SpareRoomIsNotRead(t *testing.T) {
	for _, f := range forms() {
		for i := range f.b {
			refuses(t, 2, f.b[:i:len(f.b)], api.ErrShort)
		}
	}
}

func TestP0_3CommandsOutliveTheirBytes(t *testing.T) {
	for kind := range 9 {
		for _, want := range []api.Cmd{full(kind), greatest(2, kind)} {
			b := encoded(t, 2, want)
			c, _, _ := command.Decode(2, b)
			touches := command.Touches(c)
			spoil(b, 0xee)
			if c != want {
				t.Errorf("%s became %s with its bytes", short(want), short(c))
			}
			checkTouches(t, want, touches...)
		}
	}
}

// What a call answers hangs on no call before it.
func TestP0_4CallsDoNotSeeOneAnother(t *testing.T) {
	for _, f := range forms() {
		for _, bad := range [][]byte{nil, {9}, {1, 0x80, 0}, run(0xff, 30), {5, 0, 0, 1, 'k', 1, 'o', 0x80, 0}} {
			command.Decode(2, bad)
			command.Encode(2, api.Cmd{Kind: 8, Key: "b", Key2: "a"})
			checkDecode(t, 2, f.b, f.c, len(f.b), api.OK)
		}
	}
}
