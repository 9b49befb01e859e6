package table_test

import (
	"math"
	"strings"
	"testing"

	"moot/api"
	"moot/command"
	"moot/table"
)

func TestP11_5GreatestOfEachRow(t *testing.T) {
	d := filled(5, 0)
	b := fresh(t, 5,
		committed(in(0, 3), p, 4, d), committed(in(0, 9), q, 2, d), committed(in(0, 10), get("k"), 9, d), committed(in(0, 11), put("other", ""), 50, d),
		sameVoted(in(1, 2), p, 6, d), accepted(in(3, 7), bal(1, 0), q, 1, d), committed(in(4, topNum), get("k"), 7, d))
	attrsAre(t, b, p, in(2, 1), 10, 10, 2, 0, 7, topNum)
	attrsAre(t, b, get("k"), in(2, 1), 7, 9, 2, 0, 7, 0)
	attrsAre(t, b, put("other", "x"), in(2, 1), 51, 11, 0, 0, 0, 0)
	attrsAre(t, b, get("nobody"), in(2, 1), 1, 0, 0, 0, 0, 0)
	attrsAre(t, b, count("a", "z"), in(2, 1), 51, 11, 2, 0, 7, 0)
	// What the slots themselves wait for is not looked at.
	b = fresh(t, 3, committed(in(0, 1), p, 4, vec(5, 6, 7)))
	attrsAre(t, b, q, in(2, 1), 5, 1, 0, 0)
}

// A command of Kind 0 waits for nothing, whatever its other fields are.
func TestP11_5Noop(t *testing.T) {
	for n := 1; n <= 7; n++ {
		b := fresh(t, n, committed(in(0, 1), p, 4, filled(n, 0)), committed(in(0, 2), count("a", "z"), 4, filled(n, 0)))
		for _, c := range []api.Cmd{{}, {Client: 1}, {Req: -1}, {Key: "k"}, {Key: "k", Val: "1"}, {Key: "a", Key2: "z"}, {Old: "o"}, {N: 1}} {
			for _, y := range append(noInsts(), in(0, 1), in(0, 3)) {
				attrsAre(t, b, c, y, 0, filled(n, 0)...)
			}
		}
	}
}

func TestP11_5OwnSlotLeftOut(t *testing.T) {
	d := vec(0, 0, 0)
	b := fresh(t, 3, committed(in(0, 1), p, 4, d), sameVoted(in(0, 2), q, 6, d), accepted(in(1, 2), bal(1, 0), p, 5, d))
	attrsAre(t, b, p, in(0, 1), 7, 2, 2, 0)
	attrsAre(t, b, p, in(0, 2), 6, 1, 2, 0)
	attrsAre(t, b, p, in(1, 2), 7, 2, 0, 0)
	attrsAre(t, b, p, in(2, 2), 7, 2, 2, 0)
	attrsAre(t, b, p, in(0, 3), 7, 2, 2, 0)
	attrsAre(t, fresh(t, 3, committed(x, p, 4, d)), p, x, 1, 0, 0, 0)
	attrsAre(t, fresh(t, 3, committed(x, count("a", "z"), 4, d)), p, x, 1, 0, 0, 0)
	attrsAre(t, fresh(t, 3, committed(x, p, 4, d)), count("a", "z"), x, 1, 0, 0, 0)
	for _, y := range noInsts() {
		attrsAre(t, b, p, y, 7, 2, 2, 0)
	}
}

// Slots of every State count by their command; one with a promise alone has none.
func TestP11_5EveryState(t *testing.T) {
	for _, s := range starts() {
		b := fresh(t, 3, s.records...)
		if s.slot.Cmd.Kind == 0 {
			attrsAre(t, b, q, in(0, 1), 1, 0, 0, 0)
			continue
		}
		attrsAre(t, b, q, in(0, 1), 5, 0, 5, 0)
		attrsAre(t, b, get("k"), in(0, 1), 5, 0, 5, 0)
		attrsAre(t, b, get("kk"), in(0, 1), 1, 0, 0, 0)
	}
}

func TestP11_5GreatestSeq(t *testing.T) {
	d := vec(0, 0, 0)
	for _, c := range []struct{ seq, want int }{{1, 2}, {2, 3}, {topSeq - 2, topSeq - 1}, {topSeq - 1, topSeq}, {topSeq, topSeq}} {
		b := fresh(t, 3, committed(in(0, 1), p, c.seq, d), committed(in(0, 2), p, 1, d))
		attrsAre(t, b, q, x, c.want, 2, 0, 0)
	}
}

// meets holds a command against a slot with another one, both ways round.
func meets(t *testing.T, a, c api.Cmd, want bool) {
	t.Helper()
	for _, pair := range [][2]api.Cmd{{a, c}, {c, a}} {
		b := table.New(3)
		if e := b.Apply(committed(in(2, 4), pair[0], 6, vec(0, 0, 0))); e != api.OK {
			t.Fatalf("Apply of %+q = %d", pair[0].Key, e)
		}
		if want {
			attrsAre(t, b, pair[1], x, 7, 0, 0, 4)
		} else {
			attrsAre(t, b, pair[1], x, 1, 0, 0, 0)
		}
	}
}

func TestP11_5RangesAgainstKeys(t *testing.T) {
	long := strings.Repeat("k", 64)
	for _, c := range []struct {
		from, to, key string
		want          bool
	}{
		{"b", "d", "b", true}, {"b", "d", "c", true}, {"b", "d", "d", false}, {"b", "d", "a", false}, {"b", "d", "e", false},
		{"b", "d", "b\x00", true}, {"b", "d", "cz", true}, {"b", "d", "c\xff\xff", true}, {"b", "d", "a\xff", false}, {"b", "d", "d\x00", false},
		{"b", "b\x00", "b", true}, {"b", "b\x00", "b\x00", false}, {"b", "b\x00\x00", "b\x00", true}, {"b", "b\x01", "b\x00\x00", true},
		{"\x00", "\xff", "\x00", true}, {"\x00", "\xff", "\xff", false}, {"\x00", "\xff", "\xfe\xff", true}, {"\x7f", "\x81", "\x80", true},
		{"k", long, long, false}, {"k", long, long[:63], true}, {"k", long, "k", true}, {long[:63], long, long[:63], true},
	} {
		for _, kind := range []int{api.Put, api.Del, api.Add, api.Cas} {
			meets(t, count(c.from, c.to), api.Cmd{Kind: kind, Key: c.key}, c.want)
		}
		meets(t, count(c.from, c.to), get(c.key), false)
		meets(t, count(c.from, c.to), pair(api.Move, c.key, "z"), c.want || c.from <= "z" && "z" < c.to)
		meets(t, count(c.from, c.to), pair(api.Move, "z", c.key), c.want || c.from <= "z" && "z" < c.to)
		meets(t, count(c.from, c.to), pair(api.Copy, "z", c.key), c.want)
		meets(t, count(c.from, c.to), pair(api.Copy, c.key, "~"), c.from <= "~" && "~" < c.to)
	}
	meets(t, count("a", "z"), count("b", "c"), false)
	meets(t, count("a", "z"), count("a", "z"), false)
}

// Every pair of valid commands over a few keys meets just if command.Conflict says so.
func TestP11_5EveryPairOfCommands(t *testing.T) {
	var all []api.Cmd
	for kind := 1; kind <= 8; kind++ {
		for _, key := range []string{"a", "a\x00", "b", "c"} {
			if kind < api.Move {
				all = append(all, api.Cmd{Kind: kind, Key: key})
				continue
			}
			for _, key2 := range []string{"a", "a\x00", "b", "c"} {
				if c := pair(kind, key, key2); command.Check(2, c) == api.OK {
					all = append(all, c)
				}
			}
		}
	}
	for i, a := range all {
		for _, c := range all[i:] {
			meets(t, a, c, command.Conflict(a, c))
		}
	}
}

// c may be any command: what it touches hangs on its Kind and its keys alone.
func TestP11_5CommandsThatAreNotValid(t *testing.T) {
	d, long := vec(0, 0, 0), strings.Repeat("k", 64)
	b := fresh(t, 3, committed(in(0, 1), p, 4, d), committed(in(1, 2), count("k", "l"), 6, d), committed(in(2, 3), get(long), 8, d))
	attrsAre(t, b, api.Cmd{Kind: api.Put, Client: -1, Req: -1, Key: "k", Key2: "m", Val: strings.Repeat("v", 70000), Old: "o", N: 1}, x, 7, 1, 2, 0)
	attrsAre(t, b, api.Cmd{Kind: api.Get, Key: "k", Key2: "k", Val: "v"}, x, 5, 1, 0, 0)
	attrsAre(t, b, put("", "1"), x, 1, 0, 0, 0)
	attrsAre(t, b, put(long+"k", "1"), x, 7, 0, 2, 0)
	attrsAre(t, b, put(long, "1"), x, 9, 0, 2, 3)
	attrsAre(t, b, pair(api.Move, "k", "k"), x, 7, 1, 2, 0)
	attrsAre(t, b, pair(api.Copy, "", "k"), x, 7, 1, 2, 0)
	attrsAre(t, b, pair(api.Move, long, ""), x, 9, 0, 2, 3)
	attrsAre(t, b, count("", "l"), x, 5, 1, 0, 0)
	attrsAre(t, b, count("", strings.Repeat("\xff", 99)), x, 5, 1, 0, 0)
	attrsAre(t, b, count("k", ""), x, 1, 0, 0, 0)
	attrsAre(t, b, count("k", "k"), x, 1, 0, 0, 0)
	attrsAre(t, b, count("l", "k"), x, 1, 0, 0, 0)
	attrsAre(t, b, count("", ""), x, 1, 0, 0, 0)
	for _, kind := range append(wild(), 9, 10, -1, -2, math.MaxInt32) {
		attrsAre(t, b, api.Cmd{Kind: kind, Key: "k", Key2: "l"}, x, 1, 0, 0, 0)
	}
}

// What a slot's command was before counts no more; what it is now does.
func TestP11_5CommandsThatGaveWay(t *testing.T) {
	all := []api.Cmd{p, get("k"), get("j"), put("j", ""), pair(api.Move, "j", "k"), pair(api.Move, "k", "j"), pair(api.Copy, "k", "l"), pair(api.Copy, "l", "j"), count("a", "k"), count("j", "z"), count("k", "k\x00"), {}}
	d := vec(0, 0, 0)
	for _, before := range all {
		for _, now := range all {
			b, m := fresh(t, 3), newModel(3)
			isApplied(t, m, b, withCommand(accepted(x, first, before, 3, d)))
			isApplied(t, m, b, accepted(in(2, 9), bal(1, 0), put("k", "other"), 2, d))
			isApplied(t, m, b, withCommand(accepted(x, bal(1, 0), now, 5, d)))
			asked(t, m, b, all)
			isApplied(t, m, b, promise(x, bal(2, 0)))
			asked(t, m, b, all)
			isApplied(t, m, b, withCommand(committed(x, before, 7, d)))
			asked(t, m, b, all)
		}
	}
}

// withCommand is the record, with a noop's Seq if it has one.
func withCommand(r api.Record) api.Record {
	if r.Cmd.Kind == 0 {
		r.Seq = 0
	}
	return r
}

func asked(t *testing.T, m *model, b *table.Table, all []api.Cmd) {
	t.Helper()
	slots := m.slots()
	for _, c := range all {
		for _, y := range []api.Inst{in(0, 1), x, in(2, 9)} {
			seq, deps := attrsOf(slots, 3, c, y)
			attrsAre(t, b, c, y, seq, deps...)
		}
	}
}

// Two slots of one key: when one of them gets another command, the other one is still found.
func TestP11_5OneOfTwoGaveWay(t *testing.T) {
	d := vec(0, 0, 0)
	for _, c := range []api.Cmd{p, count("a", "z"), pair(api.Move, "k", "j")} {
		b := fresh(t, 3, accepted(in(0, 1), bal(0, 0), c, 3, d), accepted(in(0, 2), bal(0, 0), c, 4, d), accepted(in(2, 2), bal(0, 2), c, 5, d))
		attrsAre(t, b, q, x, 6, 2, 0, 2)
		applies(t, b, noopAt(in(2, 2), bal(1, 0), 3), api.OK)
		attrsAre(t, b, q, x, 5, 2, 0, 0)
		applies(t, b, noopAt(in(0, 2), bal(-1, 0), 3), api.OK)
		attrsAre(t, b, q, x, 4, 1, 0, 0)
		applies(t, b, voted(in(0, 1), bal(1, 0), get("other"), 9, d), api.OK)
		attrsAre(t, b, q, x, 1, 0, 0, 0)
		applies(t, b, voted(in(0, 1), bal(2, 0), c, 9, d), api.OK)
		attrsAre(t, b, q, x, 10, 1, 0, 0)
	}
}

// A table of many slots, most of them on keys of their own.
func TestP11_5ManySlots(t *testing.T) {
	b := fresh(t, 3)
	for i := range 20000 {
		key := string([]byte{'m', byte(i >> 8), byte(i)})
		applied(t, b, committed(in(i%3, i/3+1), put(key, "v"), i+1, vec(0, 0, 0)))
	}
	attrsAre(t, b, get("m\x00\x07"), x, 9, 0, 3, 0)
	attrsAre(t, b, count("m\x00\x07", "m\x00\x0a"), x, 11, 4, 3, 3)
	attrsAre(t, b, count("m", "n"), x, 20001, 6667, 6667, 6666)
	topIs(t, b, 2, 6666)
}

func applied(t *testing.T, b *table.Table, r api.Record) {
	t.Helper()
	if e := b.Apply(r); e != api.OK {
		t.Fatalf("Apply(%s) = %d", short(r), e)
	}
}
