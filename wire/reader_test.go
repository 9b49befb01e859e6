package wire_test

import (
	"bytes"
	"fmt"
	"math"
	"testing"

	"moot/api"
	"moot/wire"
)

// stands checks what Err and Left tell, twice: they change nothing.
func stands(t *testing.T, what string, r *wire.Reader, fault api.Errno, place, left int) {
	t.Helper()
	for range 2 {
		e, at := r.Err()
		if l := r.Left(); e != fault || at != place || l != left {
			t.Errorf("%s: Err() = %d, %d, Left() = %d, want %d, %d, %d", what, e, at, l, fault, place, left)
		}
	}
}

// A reading is one call of a reading method; what it answers is told as text.
type reading struct {
	name string
	call func(r *wire.Reader) string
}

func readUint(most uint64) reading {
	return reading{fmt.Sprintf("Uint(%d)", most), func(r *wire.Reader) string { return fmt.Sprint(r.Uint(most)) }}
}

func readInt() reading {
	return reading{"Int()", func(r *wire.Reader) string { return fmt.Sprint(r.Int()) }}
}

func readByte(most int) reading {
	return reading{fmt.Sprintf("Byte(%d)", most), func(r *wire.Reader) string { return fmt.Sprint(r.Byte(most)) }}
}

func readText(least, most int) reading {
	return reading{fmt.Sprintf("Text(%d, %d)", least, most), func(r *wire.Reader) string { return fmt.Sprintf("%q", r.Text(least, most)) }}
}

// allReadings allow whatever is there.
func allReadings() []reading {
	return []reading{readUint(math.MaxUint64), readInt(), readByte(255), readText(0, math.MaxInt)}
}

func isNothing(answer string) bool { return answer == "0" || answer == `""` }

func TestP1_5ReaderKeepsItsOwnBytes(t *testing.T) {
	b := []byte{0xac, 2, 1, 'a', 9, 7}
	r := wire.NewReader(b[:5])
	stands(t, "a new reader", r, api.OK, 0, 5)
	clear(b)
	if x := r.Uint(300); x != 300 {
		t.Errorf("Uint(300) = %d", x)
	}
	b[2] = 0x80
	if s := r.Text(1, 1); s != "a" {
		t.Errorf("Text(1, 1) = %q", s)
	}
	b[4] = 0x80
	if x := r.Byte(9); x != 9 {
		t.Errorf("Byte(9) = %d", x)
	}
	stands(t, "at the end", r, api.OK, 5, 0)
}

func TestP1_5ReaderOfNothing(t *testing.T) {
	for _, b := range [][]byte{nil, {}, make([]byte, 0, 9)} {
		stands(t, "a new reader of nothing", wire.NewReader(b), api.OK, 0, 0)
		for _, m := range allReadings() {
			r := wire.NewReader(b)
			if got := m.call(r); !isNothing(got) {
				t.Errorf("%s of nothing = %s", m.name, got)
			}
			stands(t, m.name+" of nothing", r, api.ErrShort, 0, 0)
		}
	}
}

func TestP1_6Allowed(t *testing.T) {
	for _, c := range []struct {
		item []byte
		m    reading
		want string
	}{
		{[]byte{0}, readUint(0), "0"},
		{[]byte{0xac, 2}, readUint(300), "300"},
		{[]byte{0xac, 2}, readUint(301), "300"},
		{run(0x80, 9, 1), readUint(1 << 63), "9223372036854775808"},
		{run(0xff, 9, 1), readUint(math.MaxUint64), "18446744073709551615"},
		{[]byte{1}, readInt(), "-1"},
		{[]byte{0xac, 2}, readInt(), "150"},
		{run(0xff, 9, 1), readInt(), "-9223372036854775808"},
		{join(run(0xfe, 1), run(0xff, 8, 1)), readInt(), "9223372036854775807"},
		{[]byte{0}, readByte(0), "0"},
		{[]byte{7}, readByte(7), "7"},
		{[]byte{0x80}, readByte(0x80), "128"},
		{[]byte{255}, readByte(255), "255"},
		{[]byte{255}, readByte(256), "255"},
		{[]byte{255}, readByte(math.MaxInt), "255"},
		{[]byte{0}, readText(0, 0), `""`},
		{[]byte{0}, readText(-1, 0), `""`},
		{[]byte{0}, readText(math.MinInt, math.MaxInt), `""`},
		{[]byte{2, 'h', 'i'}, readText(2, 2), `"hi"`},
		{[]byte{2, 'h', 'i'}, readText(0, 3), `"hi"`},
		{[]byte{2, 0xff, 0}, readText(1, math.MaxInt), `"\xff\x00"`},
	} {
		for _, tail := range [][]byte{nil, {0}, {0x80, 0}} {
			r := wire.NewReader(join([]byte{3}, c.item, tail))
			r.Byte(3)
			if got := c.m.call(r); got != c.want {
				t.Errorf("%s of %x = %s, want %s", c.m.name, c.item, got, c.want)
			}
			stands(t, c.m.name, r, api.OK, 1+len(c.item), len(tail))
		}
	}
}

// A refusal is a reading of an item that is not there or not allowed.
type refusal struct {
	item  []byte
	m     reading
	fault api.Errno
}

func refusals() []refusal {
	huge, half := run(0xff, 9, 1), run(0x80, 9, 1)
	out := []refusal{
		{[]byte{0xac, 2}, readUint(299), api.ErrBig},
		{[]byte{1}, readUint(0), api.ErrBig},
		{huge, readUint(math.MaxUint64 - 1), api.ErrBig},
		{[]byte{0x80, 0}, readUint(0), api.ErrForm},
		{run(0xff, 9, 2), readUint(0), api.ErrWide},
		{[]byte{0xff}, readUint(0), api.ErrShort},
		{nil, readByte(255), api.ErrShort},
		{nil, readByte(-1), api.ErrShort},
		{[]byte{0}, readByte(-1), api.ErrBig},
		{[]byte{0}, readByte(math.MinInt), api.ErrBig},
		{[]byte{8}, readByte(7), api.ErrBig},
		{[]byte{255}, readByte(254), api.ErrBig},
		{[]byte{5, 'a'}, readText(0, 4), api.ErrLength},
		{[]byte{5, 'a'}, readText(6, 9), api.ErrLength},
		{[]byte{5, 'a'}, readText(0, 5), api.ErrShort},
		{[]byte{5, 'a', 'b', 'c', 'd'}, readText(5, 5), api.ErrShort},
		{[]byte{1}, readText(0, 1), api.ErrShort},
		{[]byte{0}, readText(1, 4), api.ErrLength},
		{[]byte{1, 'a'}, readText(2, 4), api.ErrLength},
		{[]byte{0}, readText(-3, -1), api.ErrLength},
		{[]byte{0}, readText(0, -1), api.ErrLength},
		{[]byte{0}, readText(-1, -3), api.ErrLength},
		{[]byte{0}, readText(math.MinInt, math.MinInt), api.ErrLength},
		{[]byte{3, 'a', 'b', 'c'}, readText(4, 2), api.ErrLength},
		{[]byte{2, 'a', 'b'}, readText(3, 2), api.ErrLength},
		{[]byte{3, 'a', 'b', 'c'}, readText(3, 2), api.ErrLength},
		{[]byte{0}, readText(math.MaxInt, math.MinInt), api.ErrLength},
		{huge, readText(0, math.MaxInt), api.ErrLength},
		{half, readText(math.MinInt, math.MaxInt), api.ErrLength},
		{huge, readText(-1, -1), api.ErrLength},
		{run(0xff, 8, 0x7f), readText(0, math.MaxInt), api.ErrShort},
		{run(0xff, 8, 0x7f), readText(0, math.MaxInt-1), api.ErrLength},
	}
	for b, fault := range badNumbers() {
		out = append(out,
			refusal{[]byte(b), readUint(math.MaxUint64), fault},
			refusal{[]byte(b), readInt(), fault},
			refusal{[]byte(b), readText(0, math.MaxInt), fault},
			refusal{[]byte(b), readText(1, -1), fault})
	}
	return out
}

func TestP1_6Refused(t *testing.T) {
	for _, c := range refusals() {
		for _, ahead := range [][]byte{nil, {1}, {9, 9, 9}} {
			r := wire.NewReader(join(ahead, c.item))
			for range ahead {
				r.Byte(255)
			}
			what := fmt.Sprintf("%s of %x", c.m.name, c.item)
			if got := c.m.call(r); !isNothing(got) {
				t.Errorf("%s = %s, want nothing", what, got)
			}
			stands(t, what, r, c.fault, len(ahead), len(c.item))
		}
	}
}

func TestP1_6TextsCutAnywhere(t *testing.T) {
	for _, s := range texts() {
		form := wire.PutText(s)
		r := wire.NewReader(form)
		if got := r.Text(len(s), len(s)); got != s {
			t.Errorf("Text of %d bytes: another text", len(s))
		}
		stands(t, "a text", r, api.OK, len(form), 0)
		if len(form) > 300 {
			continue
		}
		for i := range form {
			r := wire.NewReader(form[:i])
			if got := r.Text(0, math.MaxInt); got != "" {
				t.Errorf("Text of %x = %q", form[:i], got)
			}
			stands(t, "a text that is cut", r, api.ErrShort, 0, i)
		}
	}
}

func TestP1_7BrokenStaysBroken(t *testing.T) {
	for _, c := range refusals() {
		r := wire.NewReader(join([]byte{1}, c.item))
		r.Byte(1)
		c.m.call(r)
		for _, m := range allReadings() {
			what := fmt.Sprintf("%s behind %s of %x", m.name, c.m.name, c.item)
			if got := m.call(r); !isNothing(got) {
				t.Errorf("%s = %s, want nothing", what, got)
			}
			stands(t, what, r, c.fault, 1, len(c.item))
		}
	}
}

func TestP1_7ReadableItemIsNotReadWhenBroken(t *testing.T) {
	r := wire.NewReader([]byte{2, 'h', 'i'})
	r.Byte(1)
	for _, m := range allReadings() {
		if got := m.call(r); !isNothing(got) {
			t.Errorf("%s of a broken reader = %s", m.name, got)
		}
		stands(t, m.name, r, api.ErrBig, 0, 3)
	}
	for _, m := range []reading{readUint(0), readByte(-1), readText(9, 9)} {
		m.call(r)
		stands(t, "another fault", r, api.ErrBig, 0, 3)
	}
}

func TestP1_8CloseOfBroken(t *testing.T) {
	for _, c := range refusals() {
		r := wire.NewReader(join([]byte{1}, c.item))
		r.Byte(1)
		c.m.call(r)
		for range 2 {
			if e := r.Close(); e != c.fault {
				t.Errorf("Close behind %s of %x = %d, want %d", c.m.name, c.item, e, c.fault)
			}
			stands(t, "behind Close", r, c.fault, 1, len(c.item))
		}
	}
}

func TestP1_8CloseAtTheEnd(t *testing.T) {
	for _, m := range allReadings() {
		r := wire.NewReader([]byte{1})
		r.Byte(1)
		for range 2 {
			if e := r.Close(); e != api.OK {
				t.Errorf("Close at the end = %d", e)
			}
			stands(t, "closed at the end", r, api.OK, 1, 0)
		}
		if got := m.call(r); !isNothing(got) {
			t.Errorf("%s behind the end = %s", m.name, got)
		}
		stands(t, m.name+" behind the end", r, api.ErrShort, 1, 0)
		if e := r.Close(); e != api.ErrShort {
			t.Errorf("Close behind ErrShort = %d", e)
		}
	}
	if e := wire.NewReader(nil).Close(); e != api.OK {
		t.Errorf("Close of a reader of nothing = %d", e)
	}
}

func TestP1_8CloseWithBytesLeft(t *testing.T) {
	r := wire.NewReader([]byte{1, 2})
	if x, e := r.Byte(1), r.Close(); x != 1 || e != api.ErrRest {
		t.Errorf("Byte(1), Close() = %d, %d", x, e)
	}
	stands(t, "behind Close", r, api.ErrRest, 1, 1)
	for _, m := range allReadings() {
		if got := m.call(r); !isNothing(got) {
			t.Errorf("%s behind ErrRest = %s", m.name, got)
		}
		stands(t, m.name+" behind ErrRest", r, api.ErrRest, 1, 1)
	}
	if e := r.Close(); e != api.ErrRest {
		t.Errorf("a second Close = %d", e)
	}
	fresh := wire.NewReader([]byte{0, 0})
	if e := fresh.Close(); e != api.ErrRest {
		t.Errorf("Close of an unread reader = %d", e)
	}
	stands(t, "an unread reader", fresh, api.ErrRest, 0, 2)
}

func TestP1_9ArgumentsStay(t *testing.T) {
	for _, c := range refusals() {
		whole := join(c.item, run(0xee, 16))
		b := whole[:len(c.item)]
		before := bytes.Clone(whole)
		wire.GetUint(b)
		wire.GetInt(b)
		for _, m := range append(allReadings(), c.m) {
			r := wire.NewReader(b)
			m.call(r)
			m.call(r)
			r.Close()
		}
		if !bytes.Equal(whole, before) {
			t.Errorf("%x became %x", before, whole)
		}
	}
}

// spoil writes over a list and its spare room.
func spoil(b []byte) {
	b = b[:cap(b)]
	for i := range b {
		b[i] = 0xee
	}
}

func TestP1_9AnswersAreNewMemory(t *testing.T) {
	for _, put := range []func() []byte{
		func() []byte { return wire.PutUint(0) },
		func() []byte { return wire.PutUint(300) },
		func() []byte { return wire.PutUint(math.MaxUint64) },
		func() []byte { return wire.PutInt(0) },
		func() []byte { return wire.PutInt(-300) },
		func() []byte { return wire.PutText("") },
		func() []byte { return wire.PutText("abc") },
		func() []byte { return wire.PutText(everyByte()) },
	} {
		want := bytes.Clone(put())
		first, second := put(), put()
		spoil(first)
		if !bytes.Equal(second, want) || !bytes.Equal(put(), want) {
			t.Errorf("an answer shares memory: %x, want %x", second, want)
		}
	}
}

func TestP1_9ReadersDoNotSeeOneAnother(t *testing.T) {
	b := []byte{2, 'h', 'i'}
	first, second := wire.NewReader(b), wire.NewReader(b)
	first.Byte(1)
	stands(t, "the other reader", second, api.OK, 0, 3)
	if s := second.Text(2, 2); s != "hi" {
		t.Errorf("Text(2, 2) = %q", s)
	}
	stands(t, "the broken reader", first, api.ErrBig, 0, 3)
}

func TestExamples(t *testing.T) {
	r := wire.NewReader([]byte{0xac, 2, 5, 'a'})
	if x, s := r.Uint(300), r.Text(0, 9); x != 300 || s != "" {
		t.Errorf("Uint(300), Text(0, 9) = %d, %q", x, s)
	}
	stands(t, "behind Text", r, api.ErrShort, 2, 2)
	if x := r.Byte(255); x != 0 {
		t.Errorf("Byte(255) = %d", x)
	}
	if e := r.Close(); e != api.ErrShort {
		t.Errorf("Close() = %d", e)
	}
}
