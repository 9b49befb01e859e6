package wal_test

import (
	"bytes"
	"testing"

	"moot/api"
	"moot/frame"
)

// told asks for ErrRot at the first byte of the frame, if the byte at a place of the log becomes another one.
func told(t *testing.T, id, n int, all []byte, at int, x byte, from int) {
	t.Helper()
	turned := changed(all, at, x)
	for _, synced := range []int{at + 1, len(all)} {
		scans(t, turned, synced, id, n, nil, from, api.ErrRot)
	}
}

// eachByte goes over the frames of a log and their bytes.
func eachByte(n int, records []api.Record, do func(at, from int)) {
	from := 0
	for _, end := range endsOf(n, records...) {
		for at := from; at < end; at++ {
			do(at, from)
		}
		from = end
	}
}

// someTurns are turns of single bits, of all, and of what a length's bytes have in common with others.
func someTurns() []int { return []int{1, 2, 3, 4, 8, 16, 32, 64, 127, 128, 129, 130, 131, 192, 255} }

func allTurns() []int {
	var out []int
	for x := 1; x < 256; x++ {
		out = append(out, x)
	}
	return out
}

// Each byte, turned into each other one; lengths of one and two bytes.
func TestP10_8EveryByte(t *testing.T) {
	for n, turns := range map[int][]int{1: someTurns(), 3: allTurns(), 7: someTurns()} {
		records := sorts(n)
		all := logOf(n-1, n, records...)
		eachByte(n, records, func(at, from int) {
			for _, x := range turns {
				told(t, n-1, n, all, at, byte(x), from)
			}
		})
	}
}

func TestP10_8EveryHead(t *testing.T) {
	eachLog(func(id, n int) {
		for _, records := range [][]api.Record{nil, {sorts(n)[0]}, {sorts(n)[5], sorts(n)[5], sorts(n)[5]}} {
			all := logOf(id, n, records...)
			for at := range 11 {
				for _, x := range allTurns() {
					told(t, id, n, all, at, byte(x), 0)
				}
			}
		}
	})
}

// Long records of all sizes at which a length grows: their heads and sums, byte by byte.
func TestP10_8LongRecords(t *testing.T) {
	for _, size := range []int{100, 110, 120, 127, 128, 250, 1000, 16350, 16370, 16384, 33000, 65536} {
		long := recB
		long.Cmd = put(size)
		records := []api.Record{recA, long, recA, recB}
		all, ends := logOf(1, 3, records...), endsOf(3, records...)
		for _, at := range []int{22, 23, 24, 25, 26, 27, 28, 29, 40, ends[2] - 5, ends[2] - 4, ends[2] - 1} {
			for _, x := range someTurns() {
				told(t, 1, 3, all, at, byte(x), 22)
			}
		}
	}
}

// withSum is the log with a value changed so that the frame at a place, its length's byte turned, ends with the right sum; false, if that sum's place lies in no value.
func withSum(records []api.Record, from, at int, x byte) ([]byte, bool) {
	all := logOf(1, 3, records...)
	turned := changed(all, at, x)
	_, end, ok := bounds(turned[from:])
	if !ok || from+end+4 > len(all) {
		return nil, false
	}
	end += from
	records = append([]api.Record(nil), records...)
	for i, r := range records {
		begin := bytes.Index(all, []byte(r.Cmd.Val))
		if len(r.Cmd.Val) < 30 || end < begin || end+4 > begin+len(r.Cmd.Val) {
			continue
		}
		val := []byte(r.Cmd.Val)
		copy(val[end-begin:], librarySum(turned[from:end]))
		records[i].Cmd.Val = string(val)
		return logOf(1, 3, records...), true
	}
	return nil, false
}

// unlike is a value in which no other one stands.
func unlike(mark byte, size int) string {
	b := bytes.Repeat([]byte{mark}, size)
	for i := range b {
		b[i] ^= byte(i % 7)
	}
	return string(b)
}

// Lengths turned where the sum of what they take in is right: so the frame tells nothing, and the record must.
func TestP10_8LengthsWithRightSums(t *testing.T) {
	for _, c := range []struct {
		size, behind int // of the values
		turns        []int
		least        int // tries
	}{
		{40, 700, allTurns(), 4000}, {100, 700, allTurns(), 4000},
		{130, 2000, allTurns(), 4000}, {300, 2000, allTurns(), 4000}, {700, 2000, allTurns(), 4000},
		{1000, 40000, someTurns(), 100}, {16384, 40000, someTurns(), 100}, {40000, 40000, someTurns(), 100},
	} {
		tried := 0
		for kind := 2; kind <= 5; kind++ {
			for _, row := range []int{0, 2} {
				tried += turnLengths(t, rowOf(kind, row, c.size, c.behind), c.turns)
			}
		}
		if tried < c.least {
			t.Errorf("with %d bytes only %d lengths with right sums were tried", c.size, tried)
		}
	}
}

// rowOf is a record of a kind and a row with a value (if it has one), a short one, and two with values behind it.
func rowOf(kind, row, size, behind int) []api.Record {
	x := api.Inst{Row: row, Num: 1}
	first := api.Record{Kind: kind, Inst: x}
	if kind < 5 {
		first.Bal = api.Ballot{Round: 1}
	}
	if kind > 2 {
		first.Cmd = api.Cmd{Kind: api.Put, Key: "k", Val: unlike('p', size)}
		first.Seq, first.Deps = 1, []int{0, 0, 0}
	}
	second := api.Record{Kind: 5, Inst: x, Cmd: api.Cmd{Kind: api.Put, Key: "k", Val: unlike(0xa0, behind)}, Seq: 1, Deps: []int{0, 0, 0}}
	third := second
	third.Cmd.Val = unlike(0xf0, behind)
	return []api.Record{first, recA, second, third}
}

// turnLengths turns each byte of the lengths, of all frames but the last, into those others at which a right sum can be laid, and tells how many.
func turnLengths(t *testing.T, records []api.Record, turns []int) int {
	t.Helper()
	tried, from := 0, 0
	for _, end := range endsOf(3, records[:3]...) {
		begin, _, _ := bounds(logOf(1, 3, records...)[from:])
		for at := from + 3; at < from+begin; at++ {
			for _, x := range turns {
				all, ok := withSum(records, from, at, byte(x))
				if !ok {
					continue
				}
				tried++
				if _, _, e := frame.Open(2, changed(all, at, byte(x))[from:]); e != api.OK {
					t.Fatalf("byte %d turned by %#x: the frame itself tells it: %d", at, x, e)
				}
				told(t, 1, 3, all, at, byte(x), from)
			}
		}
		from = end
	}
	return tried
}
