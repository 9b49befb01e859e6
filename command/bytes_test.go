package command_test

import (
	"bytes"
	"math"
	"strings"
	"testing"

	"moot/api"
	"moot/command"
	"moot/wire"
)

type form struct {
	c api.Cmd
	b []byte
}

// forms are commands with their bytes, written out by hand.
func forms() []form {
	return []form{
		{api.Cmd{}, []byte{0}},
		{api.Cmd{Kind: 1, Key: "k"}, []byte{1, 0, 0, 1, 'k'}},
		{api.Cmd{Kind: 1, Client: 65535, Req: 1 << 30, Key: "\x00"}, []byte{1, 0xff, 0xff, 3, 0x80, 0x80, 0x80, 0x80, 4, 1, 0}},
		{api.Cmd{Kind: 1, Client: 127, Req: 128, Key: "ab"}, []byte{1, 127, 0x80, 1, 2, 'a', 'b'}},
		{api.Cmd{Kind: 2, Client: 7, Req: 300, Key: "k", Val: "vw"}, []byte{2, 7, 0xac, 2, 1, 'k', 2, 'v', 'w'}},
		{api.Cmd{Kind: 2, Key: "k"}, []byte{2, 0, 0, 1, 'k', 0}},
		{api.Cmd{Kind: 3, Client: 128, Key: "\xff"}, []byte{3, 0x80, 1, 0, 1, 0xff}},
		{api.Cmd{Kind: 4, Key: "k", N: -1}, []byte{4, 0, 0, 1, 'k', 1}},
		{api.Cmd{Kind: 4, Key: "k"}, []byte{4, 0, 0, 1, 'k', 0}},
		{api.Cmd{Kind: 4, Key: "k", N: 64}, []byte{4, 0, 0, 1, 'k', 0x80, 1}},
		{api.Cmd{Kind: 4, Key: "k", N: math.MinInt64}, join([]byte{4, 0, 0, 1, 'k'}, run(0xff, 9, 1))},
		{api.Cmd{Kind: 4, Key: "k", N: math.MaxInt64}, join([]byte{4, 0, 0, 1, 'k', 0xfe}, run(0xff, 8, 1))},
		{api.Cmd{Kind: 5, Key: "k", Old: "o"}, []byte{5, 0, 0, 1, 'k', 1, 'o', 0}},
		{api.Cmd{Kind: 5, Key: "k", Val: "v"}, []byte{5, 0, 0, 1, 'k', 0, 1, 'v'}},
		{api.Cmd{Kind: 5, Client: 1, Req: 2, Key: "k", Old: "old", Val: "va"}, []byte{5, 1, 2, 1, 'k', 3, 'o', 'l', 'd', 2, 'v', 'a'}},
		{api.Cmd{Kind: 5, Key: "k"}, []byte{5, 0, 0, 1, 'k', 0, 0}},
		{api.Cmd{Kind: 6, Client: 3, Req: 4, Key: "k", Key2: "l"}, []byte{6, 3, 4, 1, 'k', 0, 1, 'l'}},
		{api.Cmd{Kind: 6, Key: "ab", Key2: "a"}, []byte{6, 0, 0, 2, 'a', 'b', 1, 0}},
		{api.Cmd{Kind: 6, Key: "abc", Key2: "abd"}, []byte{6, 0, 0, 3, 'a', 'b', 'c', 2, 1, 'd'}},
		{api.Cmd{Kind: 6, Key: "abab", Key2: "bab"}, []byte{6, 0, 0, 4, 'a', 'b', 'a', 'b', 0, 3, 'b', 'a', 'b'}},
		{api.Cmd{Kind: 7, Key: "a", Key2: "ab"}, []byte{7, 0, 0, 1, 'a', 1, 1, 'b'}},
		{api.Cmd{Kind: 7, Key: "b", Key2: "ab"}, []byte{7, 0, 0, 1, 'b', 0, 2, 'a', 'b'}},
		{api.Cmd{Kind: 7, Key: "axc", Key2: "ayc"}, []byte{7, 0, 0, 3, 'a', 'x', 'c', 1, 2, 'y', 'c'}},
		{api.Cmd{Kind: 8, Key: "ab", Key2: "acd"}, []byte{8, 0, 0, 2, 'a', 'b', 1, 2, 'c', 'd'}},
		{api.Cmd{Kind: 8, Key: "a", Key2: "a\x00"}, []byte{8, 0, 0, 1, 'a', 1, 1, 0}},
		{api.Cmd{Kind: 8, Key: "\x7f", Key2: "\x80"}, []byte{8, 0, 0, 1, 0x7f, 0, 1, 0x80}},
	}
}

// versionsOf are those that have the command's kind.
func versionsOf(c api.Cmd) []int {
	if c.Kind > lastKind(1) {
		return []int{2}
	}
	return []int{1, 2}
}

func checkDecode(t *testing.T, v int, b []byte, want api.Cmd, size int, fault api.Errno) {
	t.Helper()
	if c, k, e := command.Decode(v, b); c != want || k != size || e != fault {
		t.Errorf("Decode(%d, %.60x) = %s, %d, %d, want %s, %d, %d", v, b, short(c), k, e, short(want), size, fault)
	}
}

func refuses(t *testing.T, v int, b []byte, fault api.Errno) {
	t.Helper()
	checkDecode(t, v, b, api.Cmd{}, 0, fault)
}

func TestP4_2Forms(t *testing.T) {
	for _, f := range forms() {
		for _, v := range versionsOf(f.c) {
			if b, e := command.Encode(v, f.c); !bytes.Equal(b, f.b) || e != api.OK {
				t.Errorf("Encode(%d, %s) = %x, %d, want %x", v, short(f.c), b, e, f.b)
			}
		}
	}
}

// wordsForm is the form once more from the words of P4.2, item by item.
func wordsForm(c api.Cmd) []byte {
	out := []byte{byte(c.Kind)}
	for _, field := range []string{"Client", "Req", "Key", "Key2", "Old", "Val", "N"} {
		if !has(c.Kind, field) {
			continue
		}
		switch field {
		case "Client":
			out = join(out, number(uint64(c.Client)))
		case "Req":
			out = join(out, number(uint64(c.Req)))
		case "Key":
			out = join(out, wire.PutText(c.Key))
		case "Key2":
			n := len(c.Key)
			for !strings.HasPrefix(c.Key2, c.Key[:n]) {
				n--
			}
			out = join(out, number(uint64(n)), wire.PutText(strings.TrimPrefix(c.Key2, c.Key[:n])))
		case "Old":
			out = join(out, wire.PutText(c.Old))
		case "Val":
			out = join(out, wire.PutText(c.Val))
		case "N":
			out = join(out, wire.PutInt(c.N))
		}
	}
	return out
}

func checkForm(t *testing.T, v int, c api.Cmd) {
	t.Helper()
	if b, e := command.Encode(v, c); e != api.OK || !bytes.Equal(b, wordsForm(c)) {
		t.Errorf("Encode(%d, %s) = %.60x, %d, want %.60x", v, short(c), b, e, wordsForm(c))
	}
}

func TestP4_2ThrownCommands(t *testing.T) {
	d := dice(2)
	for range 3000 {
		checkForm(t, 2, d.command(2))
		c := d.command(1)
		checkForm(t, 1, c)
		checkForm(t, 2, c)
	}
	for v := 1; v <= 2; v++ {
		for kind := 0; kind <= lastKind(v); kind++ {
			checkForm(t, v, full(kind))
			checkForm(t, v, greatest(v, kind))
			checkForm(t, 2, greatest(v, kind))
		}
	}
}

// wrong are commands that are amiss in one way or another at both versions.
func wrong() []api.Cmd {
	out := []api.Cmd{{Kind: 6, Key: "k", Key2: "k"}, {Kind: 7, Key: "k", Key2: "k"}, {Kind: 8, Key: "k", Key2: "j"}}
	for _, kind := range noKinds() {
		out = append(out, api.Cmd{Kind: kind}, api.Cmd{Kind: kind, Key: "k"})
	}
	for kind := range 9 {
		for _, field := range fieldNames() {
			if c, e := spoilt(2, full(kind), field); e != api.OK {
				out = append(out, c)
			}
		}
	}
	return out
}

func TestP4_2ChecksErrorAndNoBytes(t *testing.T) {
	all := wrong()
	for kind := range 9 {
		all = append(all, plain(kind), greatest(2, kind), greatest(1, kind))
	}
	for _, c := range all {
		for _, v := range append(noVersions(), 1, 2) {
			want := command.Check(v, c)
			b, e := command.Encode(v, c)
			if e != want || want != api.OK && len(b) != 0 {
				t.Errorf("Encode(%d, %s) = %.60x, %d, want the error %d", v, short(c), b, e, want)
			}
		}
	}
	for _, c := range wrong() {
		if _, e := command.Encode(2, c); e == api.OK {
			t.Errorf("Encode(2, %s) is OK", short(c))
		}
	}
	if b, e := command.Encode(1, plain(api.Move)); len(b) != 0 || e != api.ErrKind {
		t.Errorf("Encode(1, a Move) = %x, %d", b, e)
	}
	if b, e := command.Encode(1, greatest(2, api.Put)); len(b) != 0 || e != api.ErrVal {
		t.Errorf("Encode(1, a Put of 65536 bytes) = %.60x, %d", b, e)
	}
}

func tails() [][]byte {
	return [][]byte{nil, {0}, {1}, {0x80}, {0x80, 0}, {2, 0, 0, 1, 'k', 0}, run(0xff, 20)}
}

func TestP4_3WhatEncodeWrote(t *testing.T) {
	for _, f := range forms() {
		for _, v := range versionsOf(f.c) {
			for _, tail := range tails() {
				checkDecode(t, v, join(f.b, tail), f.c, len(f.b), api.OK)
			}
		}
	}
	d := dice(3)
	for range 3000 {
		for v := 1; v <= 2; v++ {
			c := d.command(v)
			b := encoded(t, v, c)
			checkDecode(t, v, join(b, pick(&d, tails())), c, len(b), api.OK)
		}
	}
}

// The greatest forms, and those with far more behind them than a command can have.
func TestP4_3GreatestForms(t *testing.T) {
	for v := 1; v <= 2; v++ {
		for kind := 0; kind <= lastKind(v); kind++ {
			c := greatest(v, kind)
			b := encoded(t, v, c)
			for _, tail := range [][]byte{nil, {0}, run(0, 300000), run(0xff, 1<<21)} {
				checkDecode(t, v, join(b, tail), c, len(b), api.OK)
				checkDecode(t, 2, join(b, tail), c, len(b), api.OK)
			}
		}
	}
}

func TestP4_3ProperBeginnings(t *testing.T) {
	for _, f := range forms() {
		for _, v := range versionsOf(f.c) {
			for i := range f.b {
				refuses(t, v, f.b[:i], api.ErrShort)
				refuses(t, v, bytes.Clone(f.b[:i]), api.ErrShort)
			}
		}
	}
	d := dice(4)
	for range 300 {
		for v := 1; v <= 2; v++ {
			b := encoded(t, v, d.command(v))
			for i := range min(len(b), 200) {
				refuses(t, v, b[:i], api.ErrShort)
				refuses(t, v, b[:len(b)-1-i], api.ErrShort)
			}
		}
	}
	refuses(t, 1, nil, api.ErrShort)
	refuses(t, 2, []byte{}, api.ErrShort)
}

func TestP4_3Versions(t *testing.T) {
	for _, v := range noVersions() {
		for _, f := range forms() {
			refuses(t, v, f.b, api.ErrVersion)
		}
		for _, b := range [][]byte{nil, {}, {9}, {0x80, 0}, {1, 0x80, 0}, run(0xff, 30)} {
			refuses(t, v, b, api.ErrVersion)
		}
	}
}

func TestP4_3Kinds(t *testing.T) {
	for x := range 256 {
		for v := 1; v <= 2; v++ {
			for _, tail := range append(tails(), []byte{0, 0, 1, 'k', 0, 1, 'l'}) {
				if x > lastKind(v) {
					refuses(t, v, join([]byte{byte(x)}, tail), api.ErrKind)
				}
			}
			if 0 < x && x <= lastKind(v) {
				refuses(t, v, []byte{byte(x)}, api.ErrShort)
			}
		}
	}
}

// place is where a number stands in a form: what comes ahead of it, the greatest number there, and the error above that.
type place struct {
	v    int
	head []byte
	most uint64
	own  api.Errno
}

// places are those of all numbers and lengths of all kinds, but N's.
func places() []place {
	var out []place
	for v := 1; v <= 2; v++ {
		most := uint64(longest(v))
		for kind := 1; kind <= lastKind(v); kind++ {
			at := []byte{byte(kind)}
			out = append(out, place{v, at, 65535, api.ErrClient}, place{v, join(at, []byte{7}), 1 << 30, api.ErrReq}, place{v, join(at, []byte{0x80, 1, 0}), 64, api.ErrKey})
			if kind > 5 {
				out = append(out, place{v, join(at, []byte{0, 0, 2, 'a', 'b'}), 2, api.ErrKey2})
				for shared := range byte(3) {
					out = append(out, place{v, join(at, []byte{0, 0, 2, 'a', 'b', shared}), 64 - uint64(shared), api.ErrKey2})
				}
			}
		}
		out = append(out, place{v, []byte{2, 0, 0, 1, 'k'}, most, api.ErrVal}, place{v, []byte{5, 0, 0, 1, 'k'}, most, api.ErrOld},
			place{v, []byte{5, 0, 0, 1, 'k', 0}, most, api.ErrVal}, place{v, []byte{5, 0, 0, 1, 'k', 2, 'o', 'p'}, most, api.ErrVal})
	}
	return out
}

// brokenNumbers are bytes at which no number stands, with layer 1's error.
func brokenNumbers() map[string]api.Errno {
	return map[string]api.Errno{
		"":                          api.ErrShort,
		"\x80":                      api.ErrShort,
		"\xff\xff":                  api.ErrShort,
		string(run(0xff, 9)):        api.ErrShort,
		"\x80\x00":                  api.ErrForm,
		"\x81\x00\x01":              api.ErrForm,
		"\xc1\x80\x80\x80\x00":      api.ErrForm,
		string(run(0x80, 9, 0)):     api.ErrForm,
		string(run(0xff, 9, 0, 1)):  api.ErrForm,
		string(run(0xff, 9, 2)):     api.ErrWide,
		string(run(0x80, 9, 0x80)):  api.ErrWide,
		string(run(0xff, 30)):       api.ErrWide,
		string(run(0x80, 9, 3, 17)): api.ErrWide,
	}
}

func TestP4_3BrokenNumbersAtEveryPlace(t *testing.T) {
	for bad, fault := range brokenNumbers() {
		for _, p := range places() {
			refuses(t, p.v, join(p.head, []byte(bad)), fault)
		}
		for v := 1; v <= 2; v++ {
			refuses(t, v, join([]byte{4, 0, 0, 1, 'k'}, []byte(bad)), fault)
			for _, f := range forms() {
				if f.c.Kind <= lastKind(v) {
					checkDecode(t, v, join(f.b, []byte(bad)), f.c, len(f.b), api.OK)
				}
			}
		}
	}
}

// A number within its bound at the end of the bytes leaves something missing, but for texts of no bytes.
func TestP4_3BoundsAtEveryPlace(t *testing.T) {
	for _, p := range places() {
		for _, x := range []uint64{1, 2, p.most - 1, p.most} {
			if x > 0 && x <= p.most {
				refuses(t, p.v, join(p.head, number(x)), api.ErrShort)
			}
		}
		above := []uint64{p.most + 1, p.most + 2, p.most + 127, p.most + 128, p.most + 256, p.most + 1<<32}
		for i := range 64 {
			above = append(above, uint64(1)<<i, uint64(1)<<i+1, uint64(1)<<i-1, math.MaxUint64-uint64(i), 1<<63+uint64(i), 1<<63-uint64(i))
		}
		for _, x := range above {
			for _, tail := range tails() {
				if x > p.most {
					refuses(t, p.v, join(p.head, number(x), tail), p.own)
				}
			}
		}
	}
	for v := 1; v <= 2; v++ {
		refuses(t, v, []byte{1, 0, 0, 0}, api.ErrKey)
		refuses(t, v, []byte{1, 0, 0, 0, 'k'}, api.ErrKey)
		checkDecode(t, v, []byte{2, 0, 0, 1, 'k', 0}, plain(2), 6, api.OK)
	}
}

// Where all bytes of a text that is too long are there, the answer is the same.
func TestP4_3BoundsWithAllBytes(t *testing.T) {
	for _, p := range places() {
		if p.own == api.ErrClient || p.own == api.ErrReq {
			continue
		}
		refuses(t, p.v, join(p.head, number(p.most+1), run('x', int(p.most)+30)), p.own)
	}
	refuses(t, 1, []byte{2, 7, 0xac, 2, 1, 'k', 0x81, 8}, api.ErrVal)
	refuses(t, 1, []byte{2, 7, 0xac, 2, 1, 'k', 2, 'v'}, api.ErrShort)
	refuses(t, 1, wordsForm(api.Cmd{Kind: 2, Key: "k", Val: text(1025)}), api.ErrVal)
	refuses(t, 1, wordsForm(api.Cmd{Kind: 5, Key: "k", Old: text(1025)}), api.ErrOld)
	checkDecode(t, 1, wordsForm(api.Cmd{Kind: 2, Key: "k", Val: text(1024)}), api.Cmd{Kind: 2, Key: "k", Val: text(1024)}, 5+2+1024, api.OK)
	refuses(t, 2, wordsForm(api.Cmd{Kind: 2, Key: "k", Val: text(65537)}), api.ErrVal)
	refuses(t, 2, wordsForm(api.Cmd{Kind: 5, Key: "k", Old: text(65537)}), api.ErrOld)
	refuses(t, 2, wordsForm(api.Cmd{Kind: 1, Key: text(65)}), api.ErrKey)
}

func TestP4_3SignedNumbers(t *testing.T) {
	for i := range 64 {
		for _, n := range []int64{1 << i, -1 << i, 1<<i - 1, -(1 << i) - 1, math.MaxInt64 - int64(i), math.MinInt64 + int64(i)} {
			b := join([]byte{4, 0, 0, 1, 'k'}, wire.PutInt(n))
			checkDecode(t, 1, join(b, []byte{0x80}), api.Cmd{Kind: 4, Key: "k", N: n}, len(b), api.OK)
			checkDecode(t, 2, b, api.Cmd{Kind: 4, Key: "k", N: n}, len(b), api.OK)
		}
	}
}

func TestP4_3FirstFault(t *testing.T) {
	for _, c := range []struct {
		b     []byte
		fault api.Errno
	}{
		{[]byte{9, 0x80, 0}, api.ErrKind},
		{[]byte{1, 0x80, 0, 0x81, 0x80, 0x80, 0x80, 4}, api.ErrForm},
		{[]byte{1, 0x80, 0x80, 4, 0x80, 0}, api.ErrClient},
		{[]byte{1, 0x80, 0x80, 4}, api.ErrClient},
		{[]byte{1, 0, 0x81, 0x80, 0x80, 0x80, 4, 0}, api.ErrReq},
		{[]byte{1, 0, 0x81, 0x80, 0x80, 0x80, 4}, api.ErrReq},
		{[]byte{2, 0, 0, 0, 0x80, 0}, api.ErrKey},
		{[]byte{2, 0, 0, 65, 0x80, 0}, api.ErrKey},
		{[]byte{2, 0, 0, 2, 'k'}, api.ErrShort},
		{[]byte{7, 0, 0, 0, 9, 9}, api.ErrKey},
		{[]byte{7, 0, 0, 2, 'k'}, api.ErrShort},
		// Old is read ahead of Val.
		{[]byte{5, 0, 0, 1, 'k', 0x81, 0x80, 4, 0x81, 0x80, 4}, api.ErrOld},
		{[]byte{5, 0, 0, 1, 'k', 0x80, 0, 0x81, 0x80, 4}, api.ErrForm},
		{[]byte{5, 0, 0, 1, 'k', 1, 'o', 0x81, 0x80, 4}, api.ErrVal},
		{[]byte{5, 0, 0, 1, 'k', 9, 'o', 0x81, 0x80, 4}, api.ErrShort},
		{[]byte{5, 0, 0, 1, 'k', 1, 'o', 0x80, 0}, api.ErrForm},
		{[]byte{5, 0, 0, 1, 'k', 1, 'o'}, api.ErrShort},
	} {
		refuses(t, 2, c.b, c.fault)
	}
	checkDecode(t, 2, []byte{5, 0, 0, 1, 'k', 1, 'o', 1, 'v'}, api.Cmd{Kind: 5, Key: "k", Old: "o", Val: "v"}, 9, api.OK)
}
