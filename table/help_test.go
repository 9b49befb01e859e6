package table_test

import (
	"fmt"
	"math"
	"reflect"
	"slices"
	"testing"

	"moot/api"
	"moot/table"
)

// The limits in the document's numbers.
const (
	topNum   = 1048576
	topSeq   = 1073741824
	topRound = 65535
)

// dice throws the same numbers every time.
type dice uint64

func (d *dice) below(n int) int {
	*d = *d*6364136223846793005 + 1442695040888963407
	return int(uint64(*d>>33) % uint64(n))
}

func pick[T any](d *dice, from []T) T { return from[d.below(len(from))] }

// wild are ints far from all that may be, some of them with low bits that may be.
func wild() []int {
	return []int{255, 256, 257, 259, 1<<20 + 1, 1 << 32, 1<<32 + 1, 1<<32 + 3, -255, -256, -1 << 32, 3 - 1<<32, math.MinInt, math.MinInt + 1, math.MinInt + 3, math.MaxInt}
}

func in(row, num int) api.Inst { return api.Inst{Row: row, Num: num} }

func bal(round, who int) api.Ballot { return api.Ballot{Round: round, Who: who} }

func vec(d ...int) []int { return d }

// filled is n times x.
func filled(n, x int) []int { return slices.Repeat([]int{x}, n) }

func get(key string) api.Cmd { return api.Cmd{Kind: api.Get, Key: key} }

func put(key, val string) api.Cmd { return api.Cmd{Kind: api.Put, Key: key, Val: val} }

func pair(kind int, key, key2 string) api.Cmd { return api.Cmd{Kind: kind, Key: key, Key2: key2} }

func count(key, key2 string) api.Cmd { return pair(api.Count, key, key2) }

func promise(x api.Inst, b api.Ballot) api.Record {
	return api.Record{Kind: 2, Inst: x, Bal: b}
}

func voted(x api.Inst, b api.Ballot, c api.Cmd, seq int, deps []int) api.Record {
	return api.Record{Kind: 3, Inst: x, Bal: b, Cmd: c, Seq: seq, Deps: deps}
}

func sameVoted(x api.Inst, c api.Cmd, seq int, deps []int) api.Record {
	return api.Record{Kind: 3, Inst: x, Bal: bal(0, x.Row), Same: true, Cmd: c, Seq: seq, Deps: deps}
}

func accepted(x api.Inst, b api.Ballot, c api.Cmd, seq int, deps []int) api.Record {
	return api.Record{Kind: 4, Inst: x, Bal: b, Cmd: c, Seq: seq, Deps: deps}
}

func committed(x api.Inst, c api.Cmd, seq int, deps []int) api.Record {
	return api.Record{Kind: 5, Inst: x, Cmd: c, Seq: seq, Deps: deps}
}

// noopAt is a noop accepted, or committed if the ballot is {-1, 0}.
func noopAt(x api.Inst, b api.Ballot, n int) api.Record {
	if b.Round < 0 {
		return committed(x, api.Cmd{}, 0, filled(n, 0))
	}
	return accepted(x, b, api.Cmd{}, 0, filled(n, 0))
}

// bareSlots and bareRecords: a nil list and an empty one are the same.
func bareSlots(l []api.Slot) []api.Slot {
	var out []api.Slot
	for _, s := range l {
		if len(s.Deps) == 0 {
			s.Deps = nil
		}
		out = append(out, s)
	}
	return out
}

func bareRecords(l []api.Record) []api.Record {
	var out []api.Record
	for _, r := range l {
		if len(r.Deps) == 0 {
			r.Deps = nil
		}
		out = append(out, r)
	}
	return out
}

func sameSlots(a, b []api.Slot) bool { return reflect.DeepEqual(bareSlots(a), bareSlots(b)) }

func sameSlot(a, b api.Slot) bool { return sameSlots([]api.Slot{a}, []api.Slot{b}) }

func sameRecords(a, b []api.Record) bool { return reflect.DeepEqual(bareRecords(a), bareRecords(b)) }

// fresh is a new table with these records, which it must take.
func fresh(t *testing.T, n int, records ...api.Record) *table.Table {
	t.Helper()
	b := table.New(n)
	if b == nil {
		t.Fatalf("New(%d) is nil", n)
	}
	for _, r := range records {
		if e := b.Apply(r); e != api.OK {
			t.Fatalf("Apply(%s) = %d", short(r), e)
		}
	}
	return b
}

// view is all that a table shows: to a few commands and around a few instances, where there are endless ones.
type view struct {
	Slots []api.Slot
	Log   []api.Record
	Tops  []int
	Seqs  []int
	Deps  [][]int
	Known []bool
}

func viewOf(b *table.Table) view {
	v := view{Slots: bareSlots(b.Slots()), Log: bareRecords(b.Log())}
	for row := -1; row <= 8; row++ {
		v.Tops = append(v.Tops, b.Top(row))
		for _, num := range []int{0, 1, 2, 3, 4, 5, 7, 9, topNum} {
			v.Known = append(v.Known, b.Known(in(row, num)))
		}
	}
	for _, c := range []api.Cmd{{}, get("k"), put("k", ""), put("l", ""), pair(api.Copy, "k", "m"), count("a", "l")} {
		for _, x := range []api.Inst{{}, in(0, 1), in(2, 7)} {
			seq, deps := b.Attrs(c, x)
			v.Seqs, v.Deps = append(v.Seqs, seq), append(v.Deps, deps)
		}
	}
	return v
}

func sameView(a, b view) bool { return reflect.DeepEqual(a, b) }

// applies asks for an error of Apply, and, if it is one, for nothing to change.
func applies(t *testing.T, b *table.Table, r api.Record, want api.Errno) {
	t.Helper()
	was := viewOf(b)
	if e := b.Apply(r); e != want {
		t.Errorf("Apply(%s) = %d, want %d", short(r), e, want)
	}
	if is := viewOf(b); want != api.OK && !sameView(is, was) {
		t.Errorf("the refused %s made %+v of %+v", short(r), is, was)
	}
}

// stays asks for a record to be taken without any change.
func stays(t *testing.T, b *table.Table, r api.Record) {
	t.Helper()
	was := viewOf(b)
	applies(t, b, r, api.OK)
	if is := viewOf(b); !sameView(is, was) {
		t.Errorf("%s made %+v of %+v", short(r), is, was)
	}
}

func slotIs(t *testing.T, b *table.Table, want api.Slot) {
	t.Helper()
	if s, ok := b.Slot(want.Inst); !ok || !sameSlot(s, want) {
		t.Errorf("Slot(%v) = %s, %v, want %s", want.Inst, tell(s), ok, tell(want))
	}
}

func noSlot(t *testing.T, b *table.Table, x api.Inst) {
	t.Helper()
	if s, ok := b.Slot(x); ok || !sameSlot(s, api.Slot{}) {
		t.Errorf("Slot(%v) = %s, %v, want none", x, tell(s), ok)
	}
}

func slotsAre(t *testing.T, b *table.Table, want ...api.Slot) {
	t.Helper()
	if got := b.Slots(); !sameSlots(got, want) {
		t.Errorf("Slots() = %+v, want %+v", got, want)
	}
}

func topIs(t *testing.T, b *table.Table, row, want int) {
	t.Helper()
	if got := b.Top(row); got != want {
		t.Errorf("Top(%d) = %d, want %d", row, got, want)
	}
}

func attrsAre(t *testing.T, b *table.Table, c api.Cmd, x api.Inst, seq int, deps ...int) {
	t.Helper()
	if s, d := b.Attrs(c, x); s != seq || !slices.Equal(d, deps) {
		t.Errorf("Attrs(%+q, %v) = %d, %v, want %d, %v", fmt.Sprintf("%+v", c), x, s, d, seq, deps)
	}
}

func knownIs(t *testing.T, b *table.Table, x api.Inst, want bool) {
	t.Helper()
	if got := b.Known(x); got != want {
		t.Errorf("Known(%v) = %v, want %v", x, got, want)
	}
}

func logIs(t *testing.T, b *table.Table, want ...api.Record) {
	t.Helper()
	if got := b.Log(); !sameRecords(got, want) {
		t.Errorf("Log() = %+v, want %+v", got, want)
	}
}

// short tells a record, its texts quoted and cut.
func short(r api.Record) string {
	c := &r.Cmd
	c.Key, c.Key2, c.Val, c.Old = cut(c.Key), cut(c.Key2), cut(c.Val), cut(c.Old)
	return fmt.Sprintf("%+v", r)
}

func tell(s api.Slot) string {
	c := &s.Cmd
	c.Key, c.Key2, c.Val, c.Old = cut(c.Key), cut(c.Key2), cut(c.Val), cut(c.Old)
	return fmt.Sprintf("%+v", s)
}

func cut(s string) string {
	if len(s) > 12 {
		return fmt.Sprintf("%q.. (%d bytes)", s[:12], len(s))
	}
	return fmt.Sprintf("%q", s)
}
