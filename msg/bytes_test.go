package msg_test

import (
	"bytes"
	"encoding/hex"
	"strings"
	"testing"

	"moot/api"
	"moot/msg"
)

func raw(s string) []byte {
	b, err := hex.DecodeString(strings.NewReplacer(" ", "", "·", "", "Put", "020701016B0176").Replace(s))
	if err != nil {
		panic(err)
	}
	return b
}

type form struct {
	n      int
	m      api.Msg
	v1, v2 string // in hex; none where the version has no such message
}

// forms are messages with their bytes, written out by hand: first the chapter's, then those at the edges.
func forms() []form {
	at, own, next, deps := api.Inst{Row: 1, Num: 5}, api.Ballot{Who: 1}, api.Ballot{Round: 2}, []int{3, 4, 0}
	last, zeros := api.Inst{Row: 6, Num: topNum}, filled(7, 0)
	return []form{
		{3, api.Msg{Kind: 1, Inst: at, Bal: own, Cmd: put, Seq: 2, Deps: deps}, "01 · 01 05 · 00 01 · Put · 02 · 03 04 00", "01 · 29 · 01 · Put · 02 · 07 06 02 07"},
		{3, api.Msg{Kind: 2, Inst: at, Bal: own, Seq: 2, Deps: deps}, "02 · 01 05 · 00 01 · 02 · 03 04 00", "02 · 29 · 01 · 02 · 07 06 02 07"},
		{3, api.Msg{Kind: 3, Inst: at, Bal: next, Deps: filled(3, 0)}, "03 · 01 05 · 02 00 · 00 · 00 · 00 00 00", "03 · 29 · 10 · 00 · 00 · 00"},
		{3, api.Msg{Kind: 4, Inst: at, Bal: next}, "04 · 01 05 · 02 00", "04 · 29 · 10"},
		{3, api.Msg{Kind: 5, Inst: at, Cmd: put, Seq: 2, Deps: deps}, "05 · 01 05 · Put · 02 · 03 04 00", "05 · 29 · Put · 02 · 07 06 02 07"},
		{3, api.Msg{Kind: 6, Inst: at, Bal: next}, "06 · 01 05 · 02 00", "06 · 29 · 10"},
		{3, api.Msg{Kind: 7, Inst: at, Bal: next}, "07 · 01 05 · 02 00 · 00", "07 · 29 · 10 · 00"},
		{3, api.Msg{Kind: 7, Inst: at, Bal: next, State: 1, Same: true, VBal: own, Cmd: put, Seq: 2, Deps: deps}, "07 · 01 05 · 02 00 · 01 01 00 01 · Put · 02 · 03 04 00", "07 · 29 · 10 · 05 01 · Put · 02 · 07 06 02 07"},
		{3, api.Msg{Kind: 8, Inst: at, Bal: own, VBal: next}, "08 · 01 05 · 00 01 · 02 00", "08 · 29 · 01 · 10"},
		{3, api.Msg{Kind: 9, Inst: at}, "", "09 · 29"},

		{3, api.Msg{Kind: 7, Inst: at, Bal: next, State: 1, VBal: own, Cmd: put, Seq: 2, Deps: deps}, "07 · 01 05 · 02 00 · 01 00 00 01 · Put · 02 · 03 04 00", "07 · 29 · 10 · 01 01 · Put · 02 · 07 06 02 07"},
		{3, api.Msg{Kind: 7, Inst: at, Bal: next, State: 2, VBal: api.Ballot{Round: 1, Who: 2}, Cmd: put, Seq: 2, Deps: deps}, "07 · 01 05 · 02 00 · 02 00 01 02 · Put · 02 · 03 04 00", "07 · 29 · 10 · 02 0A · Put · 02 · 07 06 02 07"},
		{3, api.Msg{Kind: 7, Inst: at, Bal: next, State: 2, VBal: own, Deps: filled(3, 0)}, "07 · 01 05 · 02 00 · 02 00 00 01 · 00 · 00 · 00 00 00", "07 · 29 · 10 · 02 01 · 00 · 00 · 00"},
		{3, api.Msg{Kind: 3, Inst: at, Bal: own, Cmd: put, Seq: 300, Deps: []int{5, 5, 5}}, "03 · 01 05 · 00 01 · Put · AC 02 · 05 05 05", "03 · 29 · 01 · Put · AC 02 · 01 0A"},
		{3, api.Msg{Kind: 5, Inst: at, Deps: filled(3, 0)}, "05 · 01 05 · 00 · 00 · 00 00 00", "05 · 29 · 00 · 00 · 00"},
		{3, api.Msg{Kind: 5, Inst: at, Cmd: move, Seq: 1, Deps: filled(3, 0)}, "", "05 · 29 · 06 00 00 01 6B 00 01 6C · 01 · 00"},
		{7, api.Msg{Kind: 4, Inst: last, Bal: api.Ballot{Round: 65535, Who: 6}}, "04 · 06 80 80 40 · FF FF 03 06", "04 · 86 80 80 04 · FE FF 1F"},
		{7, api.Msg{Kind: 2, Inst: last, Bal: api.Ballot{Who: 6}, Seq: topSeq, Deps: zeros}, "02 · 06 80 80 40 · 00 06 · 80 80 80 80 04 · 00 00 00 00 00 00 00", "02 · 86 80 80 04 · 06 · 80 80 80 80 04 · 00"},
		{7, api.Msg{Kind: 8, Inst: last, Bal: api.Ballot{Round: 65535, Who: 5}, VBal: api.Ballot{Round: 65535, Who: 6}}, "08 · 06 80 80 40 · FF FF 03 05 · FF FF 03 06", "08 · 86 80 80 04 · FD FF 1F · FE FF 1F"},
		{7, api.Msg{Kind: 9, Inst: last}, "", "09 · 86 80 80 04"},
		{7, api.Msg{Kind: 2, Inst: api.Inst{Num: 16}, Bal: api.Ballot{Round: 16, Who: 1}, Seq: 128, Deps: filled(7, topNum)}, "02 · 00 10 · 10 01 · 80 01 · 808040 808040 808040 808040 808040 808040 808040", "02 · 80 01 · 81 01 · 80 01 · 01 80 80 80 01"},
		{1, api.Msg{Kind: 9, Inst: api.Inst{Num: 1}}, "", "09 · 08"},
		{1, api.Msg{Kind: 2, Inst: api.Inst{Num: 1}, Seq: 1, Deps: []int{0}}, "02 · 00 01 · 00 00 · 01 · 00", "02 · 08 · 00 · 01 · 00"},
		{1, api.Msg{Kind: 7, Inst: api.Inst{Num: 1}, Bal: api.Ballot{Round: 1}, State: 1, Same: true, Cmd: put, Seq: 1, Deps: []int{1}}, "07 · 00 01 · 01 00 · 01 01 00 00 · Put · 01 · 01", "07 · 08 · 08 · 05 00 · Put · 01 · 01 02"},
		{2, api.Msg{Kind: 8, Inst: api.Inst{Num: 15}, VBal: api.Ballot{Round: 1}}, "08 · 00 0F · 00 00 · 01 00", "08 · 78 · 00 · 08"},
	}
}

// eachForm goes through the forms of both versions.
func eachForm(do func(v int, f form, b []byte)) {
	for _, f := range forms() {
		if f.v1 != "" {
			do(1, f, raw(f.v1))
		}
		do(2, f, raw(f.v2))
	}
}

func TestP5_4Forms(t *testing.T) {
	eachForm(func(v int, f form, want []byte) {
		if b, e := msg.Encode(v, f.n, f.m); !bytes.Equal(b, want) || e != api.OK {
			t.Errorf("Encode(%d, %d, %s) = %x, %d, want %x", v, f.n, short(f.m), b, e, want)
		}
	})
	for _, f := range forms() {
		if b, e := msg.Encode(1, f.n, f.m); f.v1 == "" && (b != nil || e == api.OK) {
			t.Errorf("Encode(1, %d, %s) = %x, %d", f.n, short(f.m), b, e)
		}
	}
	if b, e := msg.Encode(1, 3, example(9, 0, 3)); b != nil || e != api.ErrMsgKind {
		t.Errorf("Encode(1, 3, a Want) = %x, %d", b, e)
	}
}

func checkForm(t *testing.T, v, n int, m api.Msg) {
	t.Helper()
	if b, e := msg.Encode(v, n, m); e != api.OK || !bytes.Equal(b, modelEncode(v, m)) {
		t.Errorf("Encode(%d, %d, %s) = %.60x, %d, want %.60x", v, n, short(m), b, e, modelEncode(v, m))
	}
}

func TestP5_4ThrownMessages(t *testing.T) {
	d := dice(3)
	for range 10000 {
		n := 1 + d.below(7)
		checkForm(t, 2, n, d.message(2, n))
		m := d.message(1, n)
		checkForm(t, 1, n, m)
		checkForm(t, 2, n, m)
	}
	for n := 1; n <= 7; n++ {
		for _, m := range append(examples(n), sameOf(example(7, 1, n)), noopOf(example(3, 0, n)), noopOf(example(5, 0, n)), noopOf(example(7, 2, n))) {
			checkForm(t, 2, n, m)
			if m.Kind < 9 {
				checkForm(t, 1, n, m)
			}
		}
	}
}

func TestP5_4ChecksErrorAndNoBytes(t *testing.T) {
	refused := func(v, n int, m api.Msg, want api.Errno) {
		t.Helper()
		if b, e := msg.Encode(v, n, m); e != want || b != nil {
			t.Errorf("Encode(%d, %d, %s) = %.60x, %d, want the error %d", v, n, short(m), b, e, want)
		}
	}
	for _, m := range append(examples(3), api.Msg{}) {
		for _, v := range noVersions() {
			refused(v, 3, m, api.ErrVersion)
			refused(v, 8, m, api.ErrVersion)
		}
		for _, n := range noSizes() {
			refused(1, n, m, api.ErrSize)
			refused(2, n, m, api.ErrSize)
		}
		if m.Kind == 0 {
			continue
		}
		for step := 1; step <= 8; step++ {
			if bad, e := spoilt(m, step); e != api.OK {
				refused(2, 3, bad, e)
			}
		}
	}
	refused(2, 3, noopOf(example(1, 0, 3)), api.ErrMsgNoop)
	d := dice(4)
	for range 20000 {
		v, n := 1+d.below(2), 1+d.below(7)
		m := d.blur(d.message(v, n))
		if want := modelCheck(v, n, m); want != api.OK {
			refused(v, n, m, want)
		} else {
			checkForm(t, v, n, m)
		}
	}
}

// No message has more than MaxPayload bytes: a vote with the longest command has the most.
func TestP5_4TheGreatestMessages(t *testing.T) {
	m := api.Msg{Kind: 7, Inst: api.Inst{Row: 6, Num: topNum}, Bal: api.Ballot{Round: 65535, Who: 6}, State: 2, VBal: api.Ballot{Round: 65535, Who: 5}, Cmd: great, Seq: topSeq, Deps: []int{topNum, 0, topNum, 0, topNum, 0, topNum}}
	checkForm(t, 2, 7, m)
	if b := encoded(t, 2, 7, m); len(b) < 131072 || len(b) > api.MaxPayload {
		t.Errorf("the greatest message has %d bytes", len(b))
	}
	decodes(t, 2, 7, modelEncode(2, m), m, api.OK)
	m.Cmd.Old, m.Cmd.Val = text(1024), text(1024)
	checkForm(t, 1, 7, m)
	decodes(t, 1, 7, modelEncode(1, m), m, api.OK)
}
