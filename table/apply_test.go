package table_test

import (
	"math"
	"slices"
	"strings"
	"testing"

	"moot/api"
	"moot/record"
	"moot/table"
)

var (
	p = put("k", "1")
	q = put("k", "2")
)

// The instance x that most tests of Apply are about, and its row's first ballot.
var (
	x     = in(1, 5)
	first = bal(0, 1)
)

// start is a table with a slot of x, or with none, by the name of how it stands.
type start struct {
	name    string
	records []api.Record
	slot    api.Slot // all zero: none
}

// starts are the ways in which x may stand; where there is a vote or a promise, it is at {2, 1}.
func starts() []start {
	b, d := bal(2, 1), vec(1, 2, 3)
	return []start{
		{"no slot", nil, api.Slot{}},
		{"a promise", []api.Record{promise(x, b)}, api.Slot{Inst: x, Bal: b}},
		{"pre-accepted", []api.Record{voted(x, b, p, 4, d)}, api.Slot{Inst: x, Bal: b, VBal: b, State: 1, Cmd: p, Seq: 4, Deps: d}},
		{"pre-accepted at first", []api.Record{sameVoted(x, p, 4, d)}, api.Slot{Inst: x, Bal: first, VBal: first, State: 1, Same: true, Cmd: p, Seq: 4, Deps: d}},
		{"pre-accepted and a promise", []api.Record{sameVoted(x, p, 4, d), promise(x, b)}, api.Slot{Inst: x, Bal: b, VBal: first, State: 1, Same: true, Cmd: p, Seq: 4, Deps: d}},
		{"accepted", []api.Record{accepted(x, b, p, 4, d)}, api.Slot{Inst: x, Bal: b, VBal: b, State: 2, Cmd: p, Seq: 4, Deps: d}},
		{"accepted at first", []api.Record{accepted(x, first, p, 4, d)}, api.Slot{Inst: x, Bal: first, VBal: first, State: 2, Cmd: p, Seq: 4, Deps: d}},
		{"accepted and a promise", []api.Record{accepted(x, bal(1, 2), p, 4, d), promise(x, b)}, api.Slot{Inst: x, Bal: b, VBal: bal(1, 2), State: 2, Cmd: p, Seq: 4, Deps: d}},
		{"accepted a noop", []api.Record{noopAt(x, b, 3)}, api.Slot{Inst: x, Bal: b, VBal: b, State: 2, Deps: filled(3, 0)}},
		{"committed", []api.Record{committed(x, p, 4, d)}, api.Slot{Inst: x, Bal: first, State: 3, Cmd: p, Seq: 4, Deps: d}},
		{"committed behind votes", []api.Record{sameVoted(x, p, 4, d), accepted(x, b, q, 5, d), promise(x, bal(9, 0)), committed(x, p, 4, d)}, api.Slot{Inst: x, Bal: first, State: 3, Cmd: p, Seq: 4, Deps: d}},
		{"committed a noop", []api.Record{sameVoted(x, p, 4, d), noopAt(x, bal(-1, 0), 3)}, api.Slot{Inst: x, Bal: first, State: 3, Deps: filled(3, 0)}},
	}
}

func TestP11_2Starts(t *testing.T) {
	for _, s := range starts() {
		b := fresh(t, 3, s.records...)
		if s.slot.Inst == (api.Inst{}) {
			noSlot(t, b, x)
			slotsAre(t, b)
			continue
		}
		slotIs(t, b, s.slot)
		slotsAre(t, b, s.slot)
	}
}

// tried is a record with the error that each start has for it.
type tried struct {
	r    api.Record
	want string // a letter a start: k OK, d Done, o Old, v Voted, c Clash
}

func errorOf(letter rune) api.Errno {
	return map[rune]api.Errno{'k': api.OK, 'd': api.ErrTableDone, 'o': api.ErrTableOld, 'v': api.ErrTableVoted, 'c': api.ErrTableClash}[letter]
}

// isTried holds every record against every start, and the slots that come of those that are taken.
func isTried(t *testing.T, all []tried, becomes func(s api.Slot, r api.Record) api.Slot) {
	t.Helper()
	for _, c := range all {
		letters := strings.ReplaceAll(c.want, " ", "")
		if len(letters) != len(starts()) {
			t.Fatalf("%q has %d letters", c.want, len(letters))
		}
		for i, letter := range letters {
			s := starts()[i]
			b := fresh(t, 3, s.records...)
			applies(t, b, c.r, errorOf(letter))
			if letter == 'k' {
				slotIs(t, b, becomes(s.slot, c.r))
			}
			if t.Failed() {
				t.Fatalf("at %s", s.name)
			}
		}
	}
}

func TestP11_2Promise(t *testing.T) {
	isTried(t, []tried{
		//                    no promise pre-accepted accepted committed
		{promise(x, bal(1, 0)), "k o oko okoo ddd"},
		{promise(x, bal(1, 2)), "k o oko okoo ddd"},
		{promise(x, bal(2, 0)), "k o oko okoo ddd"},
		{promise(x, bal(2, 1)), "k o oko okoo ddd"},
		{promise(x, bal(2, 2)), "k k kkk kkkk ddd"},
		{promise(x, bal(3, 0)), "k k kkk kkkk ddd"},
		{promise(x, bal(topRound, 2)), "k k kkk kkkk ddd"},
	}, func(s api.Slot, r api.Record) api.Slot {
		s.Inst, s.Bal = x, r.Bal
		return s
	})
}

func TestP11_2Voted(t *testing.T) {
	d := vec(4, 0, topNum)
	isTried(t, []tried{
		{voted(x, first, q, 9, d), "k o ovo ovoo ddd"},
		{sameVoted(x, q, 9, d), "k o ovo ovoo ddd"},
		{sameVoted(x, p, 4, vec(1, 2, 3)), "k o ovo ovoo ddd"},
		{voted(x, bal(1, 0), q, 9, d), "k o oko okoo ddd"},
		{voted(x, bal(1, 2), q, 9, d), "k o oko okoo ddd"},
		{voted(x, bal(2, 0), q, 9, d), "k o oko okoo ddd"},
		{voted(x, bal(2, 1), q, 9, d), "k k vkk vkkv ddd"},
		{voted(x, bal(2, 1), p, 4, vec(1, 2, 3)), "k k vkk vkkv ddd"},
		{voted(x, bal(2, 2), q, topSeq, d), "k k kkk kkkk ddd"},
		{voted(x, bal(3, 0), q, 1, d), "k k kkk kkkk ddd"},
	}, func(_ api.Slot, r api.Record) api.Slot {
		return api.Slot{Inst: x, Bal: r.Bal, VBal: r.Bal, State: 1, Same: r.Same, Cmd: r.Cmd, Seq: r.Seq, Deps: r.Deps}
	})
}

func TestP11_2Accepted(t *testing.T) {
	d := vec(4, 0, topNum)
	isTried(t, []tried{
		{accepted(x, first, q, 9, d), "k o oko ovoo ddd"},
		{noopAt(x, first, 3), "k o oko ovoo ddd"},
		{accepted(x, bal(1, 0), q, 9, d), "k o oko okoo ddd"},
		{accepted(x, bal(1, 2), p, 4, vec(1, 2, 3)), "k o oko okoo ddd"},
		{accepted(x, bal(2, 0), q, 9, d), "k o oko okoo ddd"},
		{accepted(x, bal(2, 1), q, 9, d), "k k kkk vkkv ddd"},
		{accepted(x, bal(2, 1), p, 4, vec(1, 2, 3)), "k k kkk vkkv ddd"},
		{noopAt(x, bal(2, 1), 3), "k k kkk vkkv ddd"},
		{accepted(x, bal(2, 2), q, topSeq, d), "k k kkk kkkk ddd"},
		{noopAt(x, bal(3, 0), 3), "k k kkk kkkk ddd"},
	}, func(_ api.Slot, r api.Record) api.Slot {
		return api.Slot{Inst: x, Bal: r.Bal, VBal: r.Bal, State: 2, Cmd: r.Cmd, Seq: r.Seq, Deps: r.Deps}
	})
}

func TestP11_2Committed(t *testing.T) {
	d := vec(1, 2, 3)
	isTried(t, []tried{
		{committed(x, p, 4, d), "k k kkk kkkk kkc"},
		{committed(x, q, 4, d), "k k kkk kkkk ccc"},
		{committed(x, p, 3, d), "k k kkk kkkk ccc"},
		{committed(x, p, 5, d), "k k kkk kkkk ccc"},
		{committed(x, p, 4, vec(0, 2, 3)), "k k kkk kkkk ccc"},
		{committed(x, p, 4, vec(1, 3, 3)), "k k kkk kkkk ccc"},
		{committed(x, p, 4, vec(1, 2, 2)), "k k kkk kkkk ccc"},
		{noopAt(x, bal(-1, 0), 3), "k k kkk kkkk cck"},
	}, func(_ api.Slot, r api.Record) api.Slot {
		return api.Slot{Inst: x, Bal: first, State: 3, Cmd: r.Cmd, Seq: r.Seq, Deps: r.Deps}
	})
}

// A commit that is held is taken any number of times, and changes nothing.
func TestP11_2CommitHeld(t *testing.T) {
	for _, r := range []api.Record{committed(x, p, 4, vec(1, 2, 3)), committed(x, count("a", "z"), topSeq, filled(3, topNum)), noopAt(x, bal(-1, 0), 3)} {
		b := fresh(t, 3, sameVoted(in(0, 1), q, 1, vec(0, 0, 0)), r)
		for range 3 {
			again := r
			again.Deps = slices.Clone(r.Deps)
			stays(t, b, again)
		}
	}
}

// Of the command every field counts.
func TestP11_2ClashInEachField(t *testing.T) {
	whole := map[string]api.Cmd{
		"put":  {Kind: api.Put, Client: 1, Req: 2, Key: "k", Val: "v"},
		"cas":  {Kind: api.Cas, Client: 1, Req: 2, Key: "k", Val: "v", Old: "o"},
		"add":  {Kind: api.Add, Client: 1, Req: 2, Key: "k", N: 1},
		"move": {Kind: api.Move, Client: 1, Req: 2, Key: "k", Key2: "l"},
	}
	others := map[string][]api.Cmd{
		"put":  {{Kind: api.Put, Client: 0, Req: 2, Key: "k", Val: "v"}, {Kind: api.Put, Client: 1, Req: 3, Key: "k", Val: "v"}, {Kind: api.Put, Client: 1, Req: 2, Key: "k\x00", Val: "v"}, {Kind: api.Put, Client: 1, Req: 2, Key: "k"}, {Kind: api.Cas, Client: 1, Req: 2, Key: "k", Val: "v"}},
		"cas":  {{Kind: api.Cas, Client: 1, Req: 2, Key: "k", Val: "v", Old: "O"}, {Kind: api.Cas, Client: 1, Req: 2, Key: "k", Val: "o", Old: "v"}},
		"add":  {{Kind: api.Add, Client: 1, Req: 2, Key: "k", N: -1}, {Kind: api.Del, Client: 1, Req: 2, Key: "k"}},
		"move": {{Kind: api.Move, Client: 1, Req: 2, Key: "l", Key2: "k"}, {Kind: api.Copy, Client: 1, Req: 2, Key: "k", Key2: "l"}, {Kind: api.Move, Client: 1, Req: 2, Key: "k", Key2: "m"}},
	}
	for name, c := range whole {
		b := fresh(t, 3, committed(x, c, 4, vec(1, 2, 3)))
		for _, other := range others[name] {
			applies(t, b, committed(x, other, 4, vec(1, 2, 3)), api.ErrTableClash)
		}
		stays(t, b, committed(x, c, 4, vec(1, 2, 3)))
	}
}

// Of State None VBal is {0, 0}, which is also row 0's first ballot: there is no vote there yet.
func TestP11_2FirstVoteOfRowZero(t *testing.T) {
	y, d := in(0, 1), vec(0, 0, 0)
	applies(t, fresh(t, 3), voted(y, bal(0, 0), p, 1, d), api.OK)
	applies(t, fresh(t, 3), accepted(y, bal(0, 0), p, 1, d), api.OK)
	applies(t, fresh(t, 3), noopAt(y, bal(0, 0), 3), api.OK)
	b := fresh(t, 3, accepted(y, bal(0, 0), p, 1, d), promise(y, bal(1, 0)))
	applies(t, b, accepted(y, bal(0, 0), p, 1, d), api.ErrTableOld)
	slotIs(t, b, api.Slot{Inst: y, Bal: bal(1, 0), State: 2, Cmd: p, Seq: 1, Deps: d})
}

// A slot that isn't there is taken as promised to its row's own first ballot, in every row.
func TestP11_2FirstBallots(t *testing.T) {
	for n := 1; n <= 7; n++ {
		for row := range n {
			y, d := in(row, topNum), filled(n, 0)
			for _, r := range []api.Record{sameVoted(y, p, 1, d), voted(y, bal(0, row), p, 1, d), accepted(y, bal(0, row), p, 1, d)} {
				b := fresh(t, n)
				applies(t, b, r, api.OK)
				slotIs(t, b, api.Slot{Inst: y, Bal: bal(0, row), VBal: bal(0, row), State: r.Kind - 2, Same: r.Same, Cmd: p, Seq: 1, Deps: d})
				applies(t, b, r, api.ErrTableVoted)
				applies(t, b, promise(y, bal(1, 0)), api.OK)
				applies(t, b, r, api.ErrTableOld)
				applies(t, b, committed(y, p, 1, d), api.OK)
				slotIs(t, b, api.Slot{Inst: y, Bal: bal(0, row), State: 3, Cmd: p, Seq: 1, Deps: d})
			}
		}
	}
}

// A vote takes the place of one at an earlier ballot as a whole, whatever the States of both.
func TestP11_2LaterVotes(t *testing.T) {
	b := fresh(t, 3)
	for i, r := range []api.Record{
		sameVoted(x, p, 4, vec(1, 2, 3)),
		accepted(x, first, q, 5, vec(3, 2, 1)),
		voted(x, bal(1, 0), p, 2, vec(0, 0, 0)),
		accepted(x, bal(1, 0), count("a", "b"), 1, vec(0, 0, 1)),
		noopAt(x, bal(1, 1), 3),
		voted(x, bal(1, 2), q, topSeq, filled(3, topNum)),
		voted(x, bal(2, 0), get("j"), 1, vec(0, 0, 0)),
		accepted(x, bal(topRound, 2), p, 1, vec(0, 0, 0)),
	} {
		applies(t, b, r, api.OK)
		slotIs(t, b, api.Slot{Inst: x, Bal: r.Bal, VBal: r.Bal, State: r.Kind - 2, Same: i == 0, Cmd: r.Cmd, Seq: r.Seq, Deps: r.Deps})
	}
}

// Ballots are ordered by Round, then by Who.
func TestP11_2OrderOfBallots(t *testing.T) {
	row := []api.Ballot{bal(1, 0), bal(1, 1), bal(1, 6), bal(2, 0), bal(2, 6), bal(255, 3), bal(256, 0), bal(256, 2), bal(topRound, 0), bal(topRound, 6)}
	d := filled(7, 0)
	for i, low := range row {
		for j, high := range row {
			for _, kind := range []int{2, 3, 4} {
				r := api.Record{Kind: kind, Inst: x, Bal: high}
				if kind > 2 {
					r.Cmd, r.Seq, r.Deps = p, 1, d
				}
				want := api.OK
				if j < i || j == i && kind == 2 {
					want = api.ErrTableOld
				}
				applies(t, fresh(t, 7, promise(x, low)), r, want)
			}
		}
	}
}

// wrong are records that record.Check refuses among 3 replicas.
func wrong() map[api.Errno][]api.Record {
	d := vec(0, 0, 0)
	return map[api.Errno][]api.Record{
		api.ErrRecKind:   {{}, {Kind: 6}, {Kind: -1, Inst: x}, {Kind: 256 + 2, Inst: x, Bal: bal(1, 0)}, {Kind: math.MaxInt}, {Kind: math.MinInt}},
		api.ErrRecInst:   {promise(in(3, 1), bal(1, 0)), promise(in(-1, 1), bal(1, 0)), voted(in(0, 0), bal(0, 0), p, 1, d), accepted(in(0, -1), bal(0, 0), p, 1, d), committed(in(0, topNum+1), p, 1, d), committed(in(7, 1), p, 1, d)},
		api.ErrRecBallot: {promise(x, bal(0, 1)), promise(x, bal(1, 3)), promise(x, bal(topRound+1, 0)), voted(x, bal(0, 0), p, 1, d), voted(x, bal(-1, 1), p, 1, d), accepted(x, bal(1, -1), p, 1, d)},
		api.ErrRecSame:   {{Kind: 3, Inst: x, Bal: bal(1, 1), Same: true, Cmd: p, Seq: 1, Deps: d}},
		api.ErrRecAttr:   {voted(x, first, api.Cmd{}, 0, d), voted(x, first, p, 0, d), accepted(x, first, p, topSeq+1, d), committed(x, p, 1, vec(0, 0)), committed(x, p, 1, vec(0, -1, 0)), committed(x, api.Cmd{}, 1, d), committed(x, api.Cmd{}, 0, vec(0, 0, 1)), accepted(x, first, api.Cmd{}, 0, nil)},
		api.ErrRecExtra:  {{Kind: 2, Inst: x, Bal: bal(1, 0), Seq: 1}, {Kind: 4, Inst: x, Bal: first, Same: true, Cmd: p, Seq: 1, Deps: d}, {Kind: 5, Inst: x, Bal: bal(1, 0), Cmd: p, Seq: 1, Deps: d}, {Kind: 5, Inst: x, Cmd: p, Seq: 1, Deps: d, N: 3}, {Kind: 1, N: 3, Seq: 1}},
		api.ErrRecHead:   {{Kind: 1, Id: 3, N: 3}, {Kind: 1, Id: -1, N: 3}, {Kind: 1}, {Kind: 1, N: 8}},
		api.ErrKind:      {committed(x, api.Cmd{Kind: 9, Key: "k"}, 1, d)},
		api.ErrKey:       {voted(x, first, put("", "1"), 1, d), voted(x, first, put(strings.Repeat("k", 65), "1"), 1, d)},
		api.ErrKey2:      {accepted(x, first, count("b", "a"), 1, d)},
		api.ErrVal:       {committed(x, put("k", strings.Repeat("v", 65537)), 1, d)},
		api.ErrField:     {committed(x, api.Cmd{Client: 1}, 0, d)},
	}
}

// What record.Check refuses is refused with its error, however the slot stands: ahead of the table's own errors.
func TestP11_2WrongRecords(t *testing.T) {
	for _, s := range starts() {
		b := fresh(t, 3, s.records...)
		for e, records := range wrong() {
			for _, r := range records {
				if got := record.Check(3, r); got != e {
					t.Fatalf("Check(3, %s) = %d, want %d", short(r), got, e)
				}
				applies(t, b, r, e)
			}
		}
	}
}

// A Head has no place in a table: ErrTableHead if it is valid, of whatever log it is.
func TestP11_2Heads(t *testing.T) {
	for n := 1; n <= 7; n++ {
		b := fresh(t, n, committed(in(0, 1), p, 1, filled(n, 0)))
		for of := 0; of <= 8; of++ {
			for id := -1; id <= of; id++ {
				want := api.ErrTableHead
				if of < 1 || of > 7 || id < 0 || id >= of {
					want = api.ErrRecHead
				}
				applies(t, b, api.Record{Kind: 1, Id: id, N: of}, want)
			}
		}
	}
}

// With an error no slot is made, and what comes behind it finds none.
func TestP11_2NoSlotIsMade(t *testing.T) {
	for _, records := range wrong() {
		for _, r := range records {
			b := fresh(t, 3)
			b.Apply(r)
			noSlot(t, b, r.Inst)
			noSlot(t, b, x)
			slotsAre(t, b)
			logIs(t, b)
			knownIs(t, b, x, false)
			topIs(t, b, 1, 0)
			attrsAre(t, b, p, in(2, 1), 1, 0, 0, 0)
			applies(t, b, sameVoted(x, p, 1, vec(0, 0, 0)), api.OK)
		}
	}
}

// small are all records of one instance with few ballots, commands and attributes.
func small(x api.Inst) []api.Record {
	var out []api.Record
	for _, b := range []api.Ballot{bal(0, x.Row), bal(1, 0), bal(1, 2), bal(2, 1)} {
		if b.Round > 0 {
			out = append(out, promise(x, b))
		} else {
			out = append(out, sameVoted(x, p, 1, vec(0, 0, 0)))
		}
		out = append(out, voted(x, b, p, 1, vec(0, 0, 0)), accepted(x, b, p, 1, vec(0, 0, 0)), noopAt(x, b, 3))
	}
	return append(out, committed(x, p, 1, vec(0, 0, 0)), committed(x, p, 2, vec(0, 0, 0)), noopAt(x, bal(-1, 0), 3))
}

// Every list of up to three of these records gives what the words say.
func TestP11_2EveryShortList(t *testing.T) {
	for row := range 3 {
		all := small(in(row, 2))
		for _, a := range all {
			for _, b := range all {
				for _, c := range all {
					m, made := newModel(3), fresh(t, 3)
					for _, r := range []api.Record{a, b, c} {
						isApplied(t, m, made, r)
					}
				}
			}
		}
	}
}

// answersAlike applies a record to both, and holds the answers against each other.
func answersAlike(t *testing.T, m *model, b *table.Table, r api.Record) {
	t.Helper()
	want := m.apply(r)
	if e := b.Apply(r); e != want {
		t.Fatalf("Apply(%s) = %d, want %d", short(r), e, want)
	}
}

// isApplied does so with a valid record, and holds the slots against each other.
func isApplied(t *testing.T, m *model, b *table.Table, r api.Record) {
	t.Helper()
	answersAlike(t, m, b, r)
	slotIs(t, b, m.slot(r.Inst))
}

// What is done to one instance leaves all others.
func TestP11_2OthersStay(t *testing.T) {
	d := dice(112)
	for range 200 {
		m, b := newModel(3), fresh(t, 3)
		for range 40 {
			r := d.record(3)
			was := b.Slots()
			isApplied(t, m, b, r)
			other := func(s api.Slot) bool { return s.Inst == r.Inst }
			if is := slices.DeleteFunc(b.Slots(), other); !sameSlots(is, slices.DeleteFunc(was, other)) {
				t.Fatalf("%s made %+v of the others %+v", short(r), is, was)
			}
		}
	}
}
