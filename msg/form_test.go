package msg_test

import (
	"bytes"
	"testing"

	"moot/api"
)

// sizedExamples are valid messages of every sort among n replicas, of version v.
func sizedExamples(v, n int) []api.Msg {
	var out []api.Msg
	for _, m := range examples(n) {
		if m.Kind <= lastKind(v) {
			out = append(out, m)
		}
	}
	return append(out, sameOf(example(7, 1, n)), noopOf(example(3, 0, n)), noopOf(example(5, 0, n)), noopOf(example(7, 2, n)))
}

func eachSize(do func(v, n int)) {
	for v := 1; v <= 2; v++ {
		for n := 1; n <= 7; n++ {
			do(v, n)
		}
	}
}

func TestP5_6ThereAndBack(t *testing.T) {
	d := dice(5)
	eachSize(func(v, n int) {
		all := sizedExamples(v, n)
		for range 2000 {
			all = append(all, d.message(v, n))
		}
		kinds := map[int]int{}
		for _, m := range all {
			kinds[m.Kind]++
			decodes(t, v, n, encoded(t, v, n, m), m, api.OK)
		}
		for kind := 1; kind <= lastKind(v); kind++ {
			if kinds[kind] < 50 {
				t.Errorf("only %d messages of kind %d at version %d among %d", kinds[kind], kind, v, n)
			}
		}
	})
}

// An empty list stands for none: what comes back is the same message.
func TestP5_6EmptyLists(t *testing.T) {
	for _, m := range examples(3) {
		if has(m, "Deps") {
			continue
		}
		m.Deps = []int{}
		decodes(t, 2, 3, encoded(t, 2, 3, m), m, api.OK)
	}
}

func TestP5_6ProperBeginnings(t *testing.T) {
	eachForm(func(v int, f form, b []byte) {
		for i := range b {
			refuses(t, v, f.n, b[:i], api.ErrShort)
			refuses(t, v, f.n, bytes.Clone(b[:i]), api.ErrShort)
		}
	})
	d := dice(6)
	eachSize(func(v, n int) {
		all := sizedExamples(v, n)
		for range 60 {
			all = append(all, d.message(v, n))
		}
		for _, m := range all {
			b := encoded(t, v, n, m)
			for i := range min(len(b), 150) {
				refuses(t, v, n, b[:i], api.ErrShort)
				refuses(t, v, n, b[:len(b)-1-i], api.ErrShort)
			}
		}
	})
}

func TestP5_6AnythingBehind(t *testing.T) {
	d := dice(7)
	eachSize(func(v, n int) {
		for _, m := range append(sizedExamples(v, n), d.message(v, n), d.message(v, n)) {
			b := encoded(t, v, n, m)
			for _, tail := range append(tails()[1:], b) {
				refuses(t, v, n, join(b, tail), api.ErrMsgRest)
			}
			refuses(t, v, n, join(b, []byte{byte(d.below(256))}), api.ErrMsgRest)
		}
	})
}

// TestP5_6OneByteChanged gives every byte of some forms every other value.
func TestP5_6OneByteChanged(t *testing.T) {
	change := func(v, n int, form []byte) {
		for i := range form {
			for x := range 256 {
				b := bytes.Clone(form)
				b[i] = byte(x)
				checkAgainstModel(t, v, n, b)
				checkAgainstModel(t, 3-v, n, b)
			}
		}
	}
	eachForm(func(v int, f form, b []byte) { change(v, f.n, b) })
	eachSize(func(v, n int) {
		for _, m := range sizedExamples(v, n) {
			change(v, n, encoded(t, v, n, m))
		}
	})
}

// TestP5_6EveryShortForm goes through all short byte strings over telling bytes, behind each kind.
func TestP5_6EveryShortForm(t *testing.T) {
	for kind := range byte(11) {
		for _, head := range [][]byte{{kind}, {kind, 1, 1}, {kind, 9, 1}, {kind, 1, 1, 2, 0}, {kind, 9, 16, 2}} {
			level := [][]byte{head}
			for range 5 {
				var next [][]byte
				for _, b := range level {
					for _, n := range []int{1, 3} {
						checkAgainstModel(t, 1, n, b)
						checkAgainstModel(t, 2, n, b)
					}
					for _, x := range []byte{0, 1, 2, 5, 8, 17, 0x80, 0xff} {
						next = append(next, join(b, []byte{x}))
					}
				}
				level = next
			}
		}
	}
}

func TestP5_6ThrownBytes(t *testing.T) {
	d := dice(8)
	for range 40000 {
		v, n := 1+d.below(2), 1+d.below(7)
		b := encoded(t, v, n, d.message(v, n))
		switch near := min(len(b), 40); d.below(6) {
		case 0:
			b[d.below(near)] ^= 1 << d.below(8)
		case 1:
			b = b[:d.below(len(b)+1)]
		case 2:
			at := d.below(near + 1)
			b = join(b[:at], number(uint64(1)<<d.below(64)-uint64(d.below(3))), b[at:])
		case 3:
			at := d.below(near)
			b = join(b[:at], b[at+1:])
		case 4:
			at := len(b) - d.below(min(len(b), 12)) - 1
			b = join(b[:at], []byte{byte(d.below(256))}, b[at+d.below(2):])
		}
		checkAgainstModel(t, v, n, b)
		checkAgainstModel(t, 3-v, n, b)
		checkAgainstModel(t, v, 1+d.below(7), b)
	}
}

// Each message has a form of its own, and none begins another's.
func TestP5_6NoFormBeginsAnother(t *testing.T) {
	d := dice(9)
	eachSize(func(v, n int) {
		seen := map[string]api.Msg{}
		all := sizedExamples(v, n)
		for range 500 {
			all = append(all, d.message(v, n))
		}
		for _, m := range all {
			b := string(encoded(t, v, n, m))
			if other, ok := seen[b]; ok && !same(m, other) {
				t.Errorf("version %d: %s and %s have one form", v, short(m), short(other))
			}
			seen[b] = m
		}
		for b, m := range seen {
			for i := range len(b) {
				if other, ok := seen[b[:i]]; ok {
					t.Errorf("version %d: the form of %s begins that of %s", v, short(other), short(m))
				}
			}
		}
	})
}
