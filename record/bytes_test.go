package record_test

import (
	"bytes"
	"testing"

	"moot/api"
	"moot/record"
)

type form struct {
	n int
	r api.Record
	s string // in hex
}

// forms are records with their bytes, written out by hand: first the chapter's, then those at the edges.
func forms() []form {
	first, next, last := api.Inst{Num: 1}, api.Ballot{Round: 1, Who: 1}, api.Inst{Row: 6, Num: topNum}
	none, full := filled(3, 0), []int{3, 5, 0}
	return []form{
		{3, api.Record{Kind: 1, Id: 2, N: 3}, "01 · 02 03"},
		{3, api.Record{Kind: 2, Inst: api.Inst{Row: 1, Num: 4}, Bal: api.Ballot{Round: 2}}, "02 · 21 · 10"},
		{3, api.Record{Kind: 3, Inst: first, Same: true, Cmd: put, Seq: 1, Deps: none}, "03 · 08 · 00 · 01 · Put · 01 · 00"},
		{3, api.Record{Kind: 4, Inst: api.Inst{Row: 2, Num: 1}, Bal: next, Deps: none}, "04 · 0A · 09 · 00"},
		{3, api.Record{Kind: 5, Inst: first, Cmd: get, Seq: 3, Deps: []int{0, 5, 5}}, "05 · 08 · 01 00 00 01 6B · 03 · 02 0A"},
		{3, api.Record{Kind: 1, Id: 4, N: 7}, "01 · 04 07"},

		{1, api.Record{Kind: 1, Id: 6, N: 7}, "01 · 06 07"},
		{7, api.Record{Kind: 1, Id: 0, N: 1}, "01 · 00 01"},
		{1, api.Record{Kind: 2, Inst: first, Bal: api.Ballot{Round: 1}}, "02 · 08 · 08"},
		{7, api.Record{Kind: 2, Inst: last, Bal: api.Ballot{Round: 65535, Who: 6}}, "02 · 86 80 80 04 · FE FF 1F"},
		{2, api.Record{Kind: 2, Inst: api.Inst{Row: 1, Num: 15}, Bal: api.Ballot{Round: 16, Who: 1}}, "02 · 79 · 81 01"},
		{3, api.Record{Kind: 3, Inst: first, Cmd: put, Seq: 1, Deps: none}, "03 · 08 · 00 · 00 · Put · 01 · 00"},
		{3, api.Record{Kind: 3, Inst: api.Inst{Row: 2, Num: 1}, Bal: api.Ballot{Who: 2}, Same: true, Cmd: put, Seq: 1, Deps: full}, "03 · 0A · 02 · 01 · Put · 01 · 07 06 04 09"},
		{3, api.Record{Kind: 3, Inst: api.Inst{Row: 2, Num: 16}, Bal: next, Cmd: put, Seq: 300, Deps: full}, "03 · 82 01 · 09 · 00 · Put · AC 02 · 07 06 04 09"},
		{1, api.Record{Kind: 3, Inst: first, Same: true, Cmd: put, Seq: 1, Deps: []int{1}}, "03 · 08 · 00 · 01 · Put · 01 · 01 02"},
		{7, api.Record{Kind: 3, Inst: last, Bal: api.Ballot{Who: 6}, Same: true, Cmd: put, Seq: topSeq, Deps: filled(7, topNum)}, "03 · 86 80 80 04 · 06 · 01 · Put · 80 80 80 80 04 · 01 80 80 80 01"},
		{3, api.Record{Kind: 4, Inst: first, Bal: next, Cmd: put, Seq: 2, Deps: full}, "04 · 08 · 09 · Put · 02 · 07 06 04 09"},
		{3, api.Record{Kind: 4, Inst: api.Inst{Row: 2, Num: 1}, Bal: api.Ballot{Who: 2}, Cmd: put, Seq: 2, Deps: none}, "04 · 0A · 02 · Put · 02 · 00"},
		{3, api.Record{Kind: 4, Inst: api.Inst{Row: 1, Num: 1}, Bal: api.Ballot{Who: 1}, Deps: none}, "04 · 09 · 01 · 00"},
		{1, api.Record{Kind: 4, Inst: first, Deps: []int{0}}, "04 · 08 · 00 · 00"},
		{3, api.Record{Kind: 5, Inst: first, Deps: none}, "05 · 08 · 00"},
		{7, api.Record{Kind: 5, Inst: last, Deps: filled(7, 0)}, "05 · 86 80 80 04 · 00"},
		{3, api.Record{Kind: 5, Inst: first, Cmd: move, Seq: 1, Deps: none}, "05 · 08 · 06 00 00 01 6B 00 01 6C · 01 · 00"},
		{7, api.Record{Kind: 5, Inst: last, Cmd: put, Seq: 128, Deps: []int{0, 0, 0, 0, 0, 0, 300}}, "05 · 86 80 80 04 · Put · 80 01 · 40 D8 04"},
	}
}

func TestP6_2Forms(t *testing.T) {
	for _, f := range forms() {
		if b, e := record.Encode(f.n, f.r); !bytes.Equal(b, raw(f.s)) || e != api.OK {
			t.Errorf("Encode(%d, %s) = %x, %d, want %s", f.n, short(f.r), b, e, f.s)
		}
	}
}

func checkForm(t *testing.T, n int, r api.Record) {
	t.Helper()
	if b, e := record.Encode(n, r); e != api.OK || !bytes.Equal(b, modelEncode(r)) {
		t.Errorf("Encode(%d, %s) = %.60x, %d, want %.60x", n, short(r), b, e, modelEncode(r))
	}
}

func TestP6_2EverySort(t *testing.T) {
	for n := 1; n <= 7; n++ {
		for _, r := range sorts(n) {
			checkForm(t, n, r)
		}
	}
}

func TestP6_2ThrownRecords(t *testing.T) {
	d := dice(2)
	for range 20000 {
		n := 1 + d.below(7)
		checkForm(t, n, d.record(n))
	}
}

// Of a noop the command's one byte is the last one.
func TestP6_2NoopsEndTheirForms(t *testing.T) {
	for n := 1; n <= 7; n++ {
		for _, kind := range []int{4, 5} {
			r := example(kind, n)
			full, noop := encoded(t, n, r), encoded(t, n, noopOf(r))
			head := bytes.Index(full, raw("Put"))
			if want := join(full[:head], []byte{0}); !bytes.Equal(noop, want) {
				t.Errorf("Encode(%d, %s) = %x, want %x", n, short(noopOf(r)), noop, want)
			}
		}
	}
}

func refusesToWrite(t *testing.T, n int, r api.Record, want api.Errno) {
	t.Helper()
	if b, e := record.Encode(n, r); e != want || b != nil {
		t.Errorf("Encode(%d, %s) = %.60x, %d, want the error %d", n, short(r), b, e, want)
	}
}

func TestP6_2ChecksErrorAndNoBytes(t *testing.T) {
	for _, r := range append(sorts(3), api.Record{}) {
		for _, n := range noSizes() {
			refusesToWrite(t, n, r, api.ErrSize)
		}
	}
	for _, r := range examples(3) {
		for step := 1; step <= 8; step++ {
			if bad, e := spoilt(r, step); e != api.OK {
				refusesToWrite(t, 3, bad, e)
			}
		}
	}
	refusesToWrite(t, 3, noopOf(example(3, 3)), api.ErrRecAttr)
	d := dice(3)
	for range 20000 {
		n := 1 + d.below(7)
		r := d.blur(d.record(n))
		if want := modelCheck(n, r); want != api.OK {
			refusesToWrite(t, n, r, want)
		} else {
			checkForm(t, n, r)
		}
	}
}
