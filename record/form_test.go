package record_test

import (
	"bytes"
	"testing"

	"moot/api"
	"moot/record"
)

func TestP6_4ThereAndBack(t *testing.T) {
	d := dice(4)
	for n := 1; n <= 7; n++ {
		all := sorts(n)
		for range 3000 {
			all = append(all, d.record(n))
		}
		kinds := map[int]int{}
		for _, r := range all {
			kinds[r.Kind]++
			decodes(t, n, encoded(t, n, r), r)
		}
		for kind := 1; kind <= 5; kind++ {
			if kinds[kind] < 100 {
				t.Errorf("only %d records of kind %d among %d", kinds[kind], kind, n)
			}
		}
	}
}

// An empty list stands for none: what comes back is the same record.
func TestP6_4EmptyLists(t *testing.T) {
	for _, r := range examples(3)[:2] {
		r.Deps = []int{}
		decodes(t, 3, encoded(t, 3, r), r)
	}
}

func TestP6_4ProperBeginnings(t *testing.T) {
	d := dice(5)
	for n := 1; n <= 7; n++ {
		all := sorts(n)
		for range 100 {
			all = append(all, d.record(n))
		}
		for _, r := range all {
			b := encoded(t, n, r)
			for i := range min(len(b), 150) {
				refuses(t, n, b[:i], api.ErrShort)
				refuses(t, n, bytes.Clone(b[:len(b)-1-i]), api.ErrShort)
			}
		}
	}
	for _, f := range forms() {
		b := raw(f.s)
		for i := range b {
			refuses(t, f.n, b[:i], api.ErrShort)
		}
	}
}

func TestP6_4AnythingBehind(t *testing.T) {
	d := dice(6)
	for n := 1; n <= 7; n++ {
		for _, r := range append(sorts(n), d.record(n), d.record(n), d.record(n)) {
			b := encoded(t, n, r)
			for _, tail := range append(tails()[1:], b, []byte{byte(d.below(256))}) {
				refuses(t, n, join(b, tail), api.ErrRecRest)
			}
		}
	}
}

// TestP6_4OneByteChanged gives every byte of some forms every other value.
func TestP6_4OneByteChanged(t *testing.T) {
	change := func(n int, form []byte) {
		for i := range form {
			for x := range 256 {
				b := bytes.Clone(form)
				b[i] = byte(x)
				checkAgainstModel(t, n, b)
			}
		}
	}
	for _, f := range forms() {
		change(f.n, raw(f.s))
	}
	for n := 1; n <= 7; n++ {
		for _, r := range sorts(n) {
			change(n, encoded(t, n, r))
		}
	}
}

// TestP6_4EveryShortForm goes through all short byte strings over telling bytes, behind each kind.
func TestP6_4EveryShortForm(t *testing.T) {
	for kind := range byte(7) {
		for _, head := range [][]byte{{kind}, {kind, 9, 1}, {kind, 9, 16}, {kind, 9, 1, 1}, {kind, 9, 16, 0}} {
			level := [][]byte{head}
			for range 5 {
				var next [][]byte
				for _, b := range level {
					for _, n := range []int{1, 3} {
						checkAgainstModel(t, n, b)
					}
					for _, x := range []byte{0, 1, 2, 5, 8, 17, 0x80, 0xff} {
						next = append(next, join(b, []byte{x}))
					}
				}
				level = next
			}
		}
	}
}

func TestP6_4ThrownBytes(t *testing.T) {
	d := dice(7)
	for range 60000 {
		n := 1 + d.below(7)
		b := encoded(t, n, d.record(n))
		switch near := min(len(b), 40); d.below(6) {
		case 0:
			b[d.below(near)] ^= 1 << d.below(8)
		case 1:
			b = b[:d.below(len(b)+1)]
		case 2:
			at := d.below(near + 1)
			b = join(b[:at], number(uint64(1)<<d.below(64)-uint64(d.below(3))), b[at:])
		case 3:
			at := d.below(near)
			b = join(b[:at], b[at+1:])
		case 4:
			at := len(b) - d.below(min(len(b), 12)) - 1
			b = join(b[:at], []byte{byte(d.below(256))}, b[at+d.below(2):])
		}
		checkAgainstModel(t, n, b)
		checkAgainstModel(t, d.below(9), b)
	}
}

// Each record has a form of its own, and none begins another's.
func TestP6_4NoFormBeginsAnother(t *testing.T) {
	d := dice(8)
	for n := 1; n <= 7; n++ {
		seen := map[string]api.Record{}
		all := sorts(n)
		for range 1000 {
			all = append(all, d.record(n))
		}
		for _, r := range all {
			b := string(encoded(t, n, r))
			if other, ok := seen[b]; ok && !same(r, other) {
				t.Errorf("%s and %s have one form", short(r), short(other))
			}
			seen[b] = r
		}
		for b, r := range seen {
			for i := range len(b) {
				if other, ok := seen[b[:i]]; ok {
					t.Errorf("the form of %s begins that of %s", short(other), short(r))
				}
			}
		}
	}
}

// A form has less than 2^18 bytes: a vote with the longest command has the most.
func TestP6_4TheGreatestForms(t *testing.T) {
	r := api.Record{Kind: 3, Inst: api.Inst{Row: 6, Num: topNum}, Bal: api.Ballot{Round: 65535, Who: 6}, Cmd: great, Seq: topSeq, Deps: []int{topNum, 0, topNum, 0, topNum, 0, topNum}}
	b := encoded(t, 7, r)
	if len(b) < 2*65536 || len(b) >= 1<<18 {
		t.Errorf("the greatest form has %d bytes", len(b))
	}
	decodes(t, 7, b, r)
	for i := range len(b) / 1000 {
		refuses(t, 7, b[:1000*i], api.ErrShort)
	}
	refuses(t, 7, b[:len(b)-1], api.ErrShort)
	refuses(t, 7, join(b, []byte{0}), api.ErrRecRest)
}

// A Head's form is read and written alike for every n.
func TestP6_4HeadsAtEverySize(t *testing.T) {
	for size := 1; size <= 7; size++ {
		for id := range size {
			r := api.Record{Kind: 1, Id: id, N: size}
			b := []byte{1, byte(id), byte(size)}
			for n := 1; n <= 7; n++ {
				checkForm(t, n, r)
				decodes(t, n, b, r)
				refuses(t, n, b[:2], api.ErrShort)
				refuses(t, n, join(b, b), api.ErrRecRest)
			}
		}
	}
	for n := 1; n <= 7; n++ {
		for _, b := range []string{"01 03 03", "01 00 00", "01 00 08", "01 07 07"} {
			refuses(t, n, raw(b), api.ErrRecHead)
		}
	}
}

// With other replicas the same bytes may be another record, or none: just as the model says.
func TestP6_4FormsAtOtherSizes(t *testing.T) {
	d := dice(9)
	for range 5000 {
		n := 1 + d.below(7)
		b := encoded(t, n, d.record(n))
		for other := range 9 {
			checkAgainstModel(t, other, b)
		}
		if _, e := record.Decode(n, b); e != api.OK {
			t.Errorf("Decode(%d, %.60x) = %d", n, b, e)
		}
	}
}
