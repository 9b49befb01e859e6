package record_test

import (
	"bytes"
	"slices"
	"strings"
	"testing"

	"moot/api"
	"moot/record"
)

// room is a list with much spare room, and the whole that it is cut out of.
func room[T any](list []T, mark T) (cut, whole []T) {
	whole = append([]T{mark}, list...)
	for range 20 {
		whole = append(whole, mark)
	}
	return whole[1 : 1+len(list)], whole
}

// spoil writes x over a list and its spare room.
func spoil[T any](list []T, x T) {
	list = list[:cap(list)]
	for i := range list {
		list[i] = x
	}
}

// checkOwn writes every list full with a mark of its own, spare room and all: where two share memory a mark is lost.
func checkOwn[T comparable](t *testing.T, lists [][]T, mark func(i int) T) {
	t.Helper()
	for i, l := range lists {
		spoil(l, mark(i))
	}
	for i, l := range lists {
		for _, x := range l[:cap(l)] {
			if x != mark(i) {
				t.Errorf("list %d shares memory with another", i)
				break
			}
		}
	}
}

// handed are records for the calls, valid ones and others.
func handed() []api.Record {
	out := append(sorts(3), api.Record{Deps: []int{9}}, api.Record{Kind: 6, Deps: []int{1, 2, 3}}, noopOf(example(3, 3)))
	for _, r := range examples(3) {
		r.Deps = []int{1, -1, topNum + 1}
		out = append(out, r)
	}
	return out
}

func TestP6_5RecordsStay(t *testing.T) {
	for _, r := range handed() {
		deps, whole := room(r.Deps, -77)
		r.Deps = deps
		was, list := r, slices.Clone(whole)
		for n := range 9 {
			record.Check(n, r)
			b, _ := record.Encode(n, r)
			spoil(b, 0xee)
		}
		if !slices.Equal(whole, list) || !same(r, was) {
			t.Errorf("%s became %s, its list %v became %v", short(was), short(r), list, whole)
		}
	}
}

// What is asked next doesn't see what the list was before.
func TestP6_5RecordsAreNotKept(t *testing.T) {
	r := example(5, 3)
	checks(t, 3, r, api.OK)
	b := encoded(t, 3, r)
	was := bytes.Clone(b)
	spoil(r.Deps, -1)
	checks(t, 3, r, api.ErrRecAttr)
	if !bytes.Equal(b, was) {
		t.Errorf("the bytes %x became %x with the record's list", was, b)
	}
	spoil(r.Deps, 4)
	decodes(t, 3, encoded(t, 3, r), r)
}

// Spare room behind a list is none of it.
func TestP6_5SpareRoomIsNotRead(t *testing.T) {
	r := example(5, 3)
	r.Deps = filled(5, 3)[:2]
	checks(t, 3, r, api.ErrRecAttr)
	for _, f := range forms() {
		b := raw(f.s)
		for i := range b {
			refuses(t, f.n, b[:i:len(b)], api.ErrShort)
		}
		longer := join(b, []byte{0, 0})
		decodes(t, f.n, longer[:len(b)], f.r)
	}
}

func TestP6_5FormsAreNewMemory(t *testing.T) {
	var lists [][]byte
	for n := 1; n <= 7; n++ {
		for _, r := range sorts(n) {
			lists = append(lists, encoded(t, n, r), encoded(t, n, r))
		}
	}
	checkOwn(t, lists, func(i int) byte { return byte(i) })
	for _, f := range forms() {
		if b := encoded(t, f.n, f.r); !bytes.Equal(b, raw(f.s)) {
			t.Errorf("Encode(%d, %s) = %x once others were written over", f.n, short(f.r), b)
		}
	}
}

func TestP6_5DepsAreNewMemory(t *testing.T) {
	var lists [][]int
	for _, f := range forms() {
		for range 3 {
			r, _ := record.Decode(f.n, raw(f.s))
			lists = append(lists, r.Deps)
		}
	}
	checkOwn(t, lists, func(i int) int { return -1 - i })
	for _, f := range forms() {
		decodes(t, f.n, raw(f.s), f.r)
	}
}

func TestP6_5BytesStay(t *testing.T) {
	inputs := [][]byte{nil, {6}, {2, 0x80, 0}, run(0xff, 30), raw("05 21 00 00 01 02"), raw("03 21 01 01 00")}
	for _, f := range forms() {
		b := raw(f.s)
		inputs = append(inputs, b, b[:len(b)-1], join(b, []byte{0}))
	}
	for _, input := range inputs {
		b, whole := room(input, 0xee)
		was := bytes.Clone(whole)
		for n := range 9 {
			r, _ := record.Decode(n, b)
			spoil(r.Deps, -1)
		}
		if !bytes.Equal(whole, was) {
			t.Errorf("%x became %x", was, whole)
		}
	}
}

func TestP6_5RecordsOutliveTheirBytes(t *testing.T) {
	long := example(4, 3)
	long.Cmd = great
	all := []form{{n: 3, r: long}}
	for n := 1; n <= 7; n++ {
		for _, r := range sorts(n) {
			all = append(all, form{n: n, r: r})
		}
	}
	for _, f := range append(all, forms()...) {
		b := encoded(t, f.n, f.r)
		r, _ := record.Decode(f.n, b)
		spoil(b, 0xee)
		if !same(r, f.r) {
			t.Errorf("%s became %s with its bytes", short(f.r), short(r))
		}
	}
}

// A record's texts may be pieces of a text that goes on behind them.
func TestP6_5TextsStay(t *testing.T) {
	for _, r := range sorts(3) {
		was := r
		r.Cmd.Key = strings.Clone(r.Cmd.Key + "more")[:len(r.Cmd.Key)]
		spoil(encoded(t, 3, r), 0xee)
		if !same(r, was) {
			t.Errorf("%s became %s", short(was), short(r))
		}
	}
}

// What a call answers hangs on no call before it.
func TestP6_5CallsDoNotSeeOneAnother(t *testing.T) {
	for _, f := range forms() {
		for _, bad := range [][]byte{nil, {6}, {2, 0x80, 0}, run(0xff, 30), raw("05 21 Put 01 07 02"), raw("03 21 01 01 00")} {
			record.Decode(f.n, bad)
			record.Decode(f.n%7+1, bad)
			record.Encode(f.n, api.Record{Kind: 6})
			decodes(t, f.n, raw(f.s), f.r)
			if again := encoded(t, f.n, f.r); !bytes.Equal(again, raw(f.s)) {
				t.Errorf("Encode(%d, %s) = %x behind other calls", f.n, short(f.r), again)
			}
		}
	}
}
