package table_test

import (
	"slices"
	"testing"

	"moot/api"
	"moot/command"
	"moot/record"
	"moot/table"
)

// model keeps, of each instance, every record that was taken, and tells all else from these.
type model struct {
	n     int
	taken map[api.Inst][]api.Record
}

func newModel(n int) *model { return &model{n: n, taken: map[api.Inst][]api.Record{}} }

// rank puts the ballots that may be into one row of numbers.
func rank(b api.Ballot) int { return 8*b.Round + b.Who }

// slot is what the records of x make: its commit, or the highest ballot of all of them and the last vote.
func (m *model) slot(x api.Inst) api.Slot {
	s := api.Slot{Inst: x, Bal: bal(0, x.Row)}
	for _, r := range m.taken[x] {
		if r.Kind == 5 {
			return api.Slot{Inst: x, Bal: bal(0, x.Row), State: 3, Cmd: r.Cmd, Seq: r.Seq, Deps: r.Deps}
		}
		if rank(r.Bal) > rank(s.Bal) {
			s.Bal = r.Bal
		}
		if r.Kind > 2 {
			s.VBal, s.State, s.Same, s.Cmd, s.Seq, s.Deps = r.Bal, r.Kind-2, r.Same, r.Cmd, r.Seq, r.Deps
		}
	}
	return s
}

// fault is P11.2's error.
func (m *model) fault(r api.Record) api.Errno {
	if e := record.Check(m.n, r); e != api.OK {
		return e
	}
	if r.Kind == 1 {
		return api.ErrTableHead
	}
	s := m.slot(r.Inst)
	if s.State == 3 {
		if r.Kind < 5 {
			return api.ErrTableDone
		}
		if s.Cmd == r.Cmd && s.Seq == r.Seq && slices.Equal(s.Deps, r.Deps) {
			return api.OK
		}
		return api.ErrTableClash
	}
	here := s.State > 0 && s.VBal == r.Bal
	for _, rule := range []struct {
		kind int
		hold bool
		e    api.Errno
	}{
		{2, !(rank(r.Bal) > rank(s.Bal)), api.ErrTableOld},
		{3, rank(r.Bal) < rank(s.Bal), api.ErrTableOld},
		{4, rank(r.Bal) < rank(s.Bal), api.ErrTableOld},
		{3, here, api.ErrTableVoted},
		{4, here && s.State == 2, api.ErrTableVoted},
	} {
		if rule.kind == r.Kind && rule.hold {
			return rule.e
		}
	}
	return api.OK
}

func (m *model) apply(r api.Record) api.Errno {
	e := m.fault(r)
	if e == api.OK {
		r.Deps = slices.Clone(r.Deps)
		m.taken[r.Inst] = append(m.taken[r.Inst], r)
	}
	return e
}

func (m *model) slots() []api.Slot {
	var out []api.Slot
	for row := range m.n {
		var nums []int
		for x := range m.taken {
			if x.Row == row {
				nums = append(nums, x.Num)
			}
		}
		slices.Sort(nums)
		for _, num := range nums {
			out = append(out, m.slot(in(row, num)))
		}
	}
	return out
}

// The looks, at slots in their order: the last one of a row is its greatest.

func topOf(slots []api.Slot, row int) int {
	top := 0
	for _, s := range slots {
		if s.Inst.Row == row {
			top = s.Inst.Num
		}
	}
	return top
}

func attrsOf(slots []api.Slot, n int, c api.Cmd, x api.Inst) (int, []int) {
	deps := filled(n, 0)
	if c.Kind == 0 {
		return 0, deps
	}
	seqs := []int{0}
	for _, s := range slots {
		if s.Inst != x && command.Conflict(c, s.Cmd) {
			seqs = append(seqs, s.Seq)
			deps[s.Inst.Row] = s.Inst.Num
		}
	}
	if greatest := slices.Max(seqs); greatest < topSeq {
		return greatest + 1, deps
	}
	return topSeq, deps
}

func isKnown(slots []api.Slot, x api.Inst) bool {
	for _, s := range slots {
		if s.Inst == x || 0 <= x.Row && x.Row < len(s.Deps) && 0 < x.Num && x.Num <= s.Deps[x.Row] {
			return true
		}
	}
	return false
}

func logOf(slots []api.Slot) []api.Record {
	var out []api.Record
	for _, s := range slots {
		switch s.State {
		case 1:
			out = append(out, api.Record{Kind: 3, Inst: s.Inst, Bal: s.VBal, Same: s.Same, Cmd: s.Cmd, Seq: s.Seq, Deps: s.Deps})
		case 2:
			out = append(out, accepted(s.Inst, s.VBal, s.Cmd, s.Seq, s.Deps))
		case 3:
			out = append(out, committed(s.Inst, s.Cmd, s.Seq, s.Deps))
		}
		if s.State == 0 || s.State < 3 && rank(s.Bal) > rank(s.VBal) {
			out = append(out, promise(s.Inst, s.Bal))
		}
	}
	return out
}

// agrees holds every look at the table against the model.
func (m *model) agrees(t *testing.T, b *table.Table, d *dice) {
	t.Helper()
	want := m.slots()
	slotsAre(t, b, want...)
	logIs(t, b, logOf(want)...)
	for _, s := range want {
		slotIs(t, b, s)
	}
	for row := -1; row <= m.n; row++ {
		topIs(t, b, row, topOf(want, row))
	}
	for range 8 {
		x := in(d.below(m.n+2)-1, pick(d, []int{-1, 0, 1, 2, 3, 4, 5, topNum, topNum + 1, d.below(12)}))
		knownIs(t, b, x, isKnown(want, x))
		if _, ok := m.taken[x]; !ok {
			noSlot(t, b, x)
		}
		c := d.anyCommand()
		seq, deps := attrsOf(want, m.n, c, x)
		attrsAre(t, b, c, x, seq, deps...)
	}
}

// keys are such that some begin others, some stand just behind others, and the longest one is among them.
func keys() []string {
	return []string{"a", "a\x00", "a\x00\x00", "a\x01", "ab", "b", "k", "\x00", "\xff", string(make([]byte, 64))}
}

// command is a valid one, no noop.
func (d *dice) command() api.Cmd {
	c := api.Cmd{Kind: 1 + d.below(8), Client: d.below(3), Req: d.below(3), Key: pick(d, keys())}
	switch c.Kind {
	case api.Put:
		c.Val = pick(d, []string{"", "1", "2"})
	case api.Add:
		c.N = int64(d.below(3)) - 1
	case api.Cas:
		c.Old, c.Val = pick(d, []string{"", "1"}), pick(d, []string{"", "1"})
	case api.Move, api.Copy, api.Count:
		c.Key2 = pick(d, keys())
		if c.Key2 == c.Key {
			c.Key2 += "x"
			c.Key2 = c.Key2[max(0, len(c.Key2)-64):]
		}
		if c.Kind == api.Count && c.Key2 < c.Key {
			c.Key, c.Key2 = c.Key2, c.Key
		}
	}
	return c
}

// anyCommand may be valid or not.
func (d *dice) anyCommand() api.Cmd {
	c := d.command()
	switch d.below(6) {
	case 0:
		c.Kind = pick(d, []int{0, 9, -1, 99, 1<<32 + 2})
	case 1:
		c.Key = pick(d, []string{"", "a\x00\x00\x00", string(make([]byte, 70))})
	case 2:
		c.Key, c.Key2 = pick(d, append(keys(), "")), pick(d, append(keys(), ""))
	case 3:
		c.Client, c.Req, c.Val, c.N = -1, -1, "odd", 7
	}
	return c
}

// record is a valid one among n replicas, no Head, with few instances and ballots, so that many meet.
func (d *dice) record(n int) api.Record {
	r := api.Record{Kind: 2 + d.below(4), Inst: in(d.below(n), pick(d, []int{1, 2, 3, 4, 5, 11, topNum}))}
	if r.Kind < 5 {
		r.Bal = bal(pick(d, []int{0, 0, 1, 1, 2, 3, topRound}), d.below(n))
	}
	if r.Kind == 2 {
		r.Bal.Round = max(1, r.Bal.Round)
		return r
	}
	if r.Kind < 5 && r.Bal.Round == 0 {
		r.Bal.Who = r.Inst.Row
		r.Same = r.Kind == 3 && d.below(2) == 0
	}
	if r.Kind > 3 && d.below(8) == 0 {
		r.Deps = filled(n, 0)
		return r
	}
	r.Cmd, r.Seq = d.command(), pick(d, []int{1, 2, 3, 4, topSeq - 1, topSeq, 1 + d.below(topSeq)})
	for range n {
		r.Deps = append(r.Deps, pick(d, []int{0, 0, 0, 0, 1, 2, 4, 9, topNum}))
	}
	return r
}

// odd is the record, but with something changed that may make it wrong.
func (d *dice) odd(r api.Record) api.Record {
	switch d.below(10) {
	case 0:
		r.Kind = d.below(8) - 1
	case 1:
		r.Inst.Row = d.below(10) - 1
	case 2:
		r.Inst.Num = pick(d, []int{0, -1, topNum + 1})
	case 3:
		r.Bal = bal(d.below(4)-1, d.below(9)-1)
	case 4:
		r.Same = !r.Same
	case 5:
		r.Cmd = d.anyCommand()
	case 6:
		r.Seq = pick(d, []int{0, -1, topSeq + 1})
	case 7:
		r.Deps = append(slices.Clone(r.Deps), 0)
	case 8:
		r = api.Record{Kind: 1, Id: d.below(4), N: d.below(9)}
	case 9:
		r.Id, r.N = d.below(2), d.below(2)
	}
	return r
}

// again is a record of an instance that has been met, with its own command and attributes: a commit that is held, or nearly.
func (d *dice) again(m *model, r api.Record) api.Record {
	s := m.slot(r.Inst)
	if r.Kind == 2 || s.State == 0 || r.Kind == 3 && s.Cmd.Kind == 0 {
		return r
	}
	r.Cmd, r.Seq, r.Deps = s.Cmd, s.Seq, slices.Clone(s.Deps)
	switch d.below(6) {
	case 0:
		r.Cmd.Req++
	case 1:
		r.Seq++
	case 2:
		r.Deps[d.below(m.n)]++
	}
	return r
}

func (d *dice) step(m *model) api.Record {
	r := d.record(m.n)
	switch d.below(8) {
	case 0:
		return d.odd(r)
	case 1, 2:
		return d.again(m, r)
	}
	return r
}

func TestWalks(t *testing.T) {
	d, answers := dice(11), map[api.Errno]int{}
	for range 200 {
		n := 1 + d.below(7)
		m, b := newModel(n), fresh(t, n)
		for range 60 {
			r := d.step(m)
			answers[m.fault(r)]++
			answersAlike(t, m, b, r)
			m.agrees(t, b, &d)
			if t.Failed() {
				t.Fatalf("behind Apply(%s)", short(r))
			}
		}
	}
	for _, e := range []api.Errno{api.OK, api.ErrTableHead, api.ErrTableDone, api.ErrTableOld, api.ErrTableVoted, api.ErrTableClash, api.ErrRecExtra} {
		if answers[e] < 50 {
			t.Errorf("of all answers only %d were %d", answers[e], e)
		}
	}
}
