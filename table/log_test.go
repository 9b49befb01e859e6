package table_test

import (
	"slices"
	"testing"

	"moot/api"
	"moot/table"
)

// The log of each start, in the chapter's words.
func TestP11_7EveryState(t *testing.T) {
	b, d := bal(2, 1), vec(1, 2, 3)
	want := map[string][]api.Record{
		"no slot":                    nil,
		"a promise":                  {promise(x, b)},
		"pre-accepted":               {voted(x, b, p, 4, d)},
		"pre-accepted at first":      {sameVoted(x, p, 4, d)},
		"pre-accepted and a promise": {sameVoted(x, p, 4, d), promise(x, b)},
		"accepted":                   {accepted(x, b, p, 4, d)},
		"accepted at first":          {accepted(x, first, p, 4, d)},
		"accepted and a promise":     {accepted(x, bal(1, 2), p, 4, d), promise(x, b)},
		"accepted a noop":            {noopAt(x, b, 3)},
		"committed":                  {committed(x, p, 4, d)},
		"committed behind votes":     {committed(x, p, 4, d)},
		"committed a noop":           {noopAt(x, bal(-1, 0), 3)},
	}
	for _, s := range starts() {
		records, ok := want[s.name]
		if !ok {
			t.Errorf("no log for %s", s.name)
		}
		logIs(t, fresh(t, 3, s.records...), records...)
	}
}

// What was overtaken is not in the log; a promise is, once only, if it stands above the vote.
func TestP11_7Overtaken(t *testing.T) {
	d := vec(0, 0, 0)
	b := fresh(t, 3, promise(x, bal(1, 0)), promise(x, bal(1, 1)))
	logIs(t, b, promise(x, bal(1, 1)))
	applies(t, b, voted(x, bal(1, 1), p, 1, d), api.OK)
	logIs(t, b, voted(x, bal(1, 1), p, 1, d))
	applies(t, b, promise(x, bal(1, 2)), api.OK)
	logIs(t, b, voted(x, bal(1, 1), p, 1, d), promise(x, bal(1, 2)))
	applies(t, b, promise(x, bal(7, 0)), api.OK)
	logIs(t, b, voted(x, bal(1, 1), p, 1, d), promise(x, bal(7, 0)))
	applies(t, b, accepted(x, bal(7, 0), q, 2, d), api.OK)
	logIs(t, b, accepted(x, bal(7, 0), q, 2, d))
	applies(t, b, promise(x, bal(7, 1)), api.OK)
	logIs(t, b, accepted(x, bal(7, 0), q, 2, d), promise(x, bal(7, 1)))
	applies(t, b, voted(x, bal(8, 0), q, 3, d), api.OK)
	logIs(t, b, voted(x, bal(8, 0), q, 3, d))
	applies(t, b, committed(x, q, 3, d), api.OK)
	logIs(t, b, committed(x, q, 3, d))
}

func TestP11_7OrderOfInstances(t *testing.T) {
	b := fresh(t, 7)
	var want []api.Record
	for i, y := range slices.Backward(spread()) {
		vote := []api.Record{sameVoted(y, p, 1+i, filled(7, i)), accepted(y, bal(1, 1), q, 1+i, filled(7, i)), committed(y, q, 1+i, filled(7, i)), promise(y, bal(1, 2))}[i%4]
		applies(t, b, vote, api.OK)
		records := []api.Record{vote}
		if i%4 < 2 {
			records = append(records, promise(y, bal(2, 2)))
			applies(t, b, records[1], api.OK)
		}
		want = append(records, want...)
	}
	for range 5 {
		logIs(t, b, want...)
	}
}

// replayed is a new table with the records, or nil if one of them is refused.
func replayed(n int, records []api.Record) *table.Table {
	b := table.New(n)
	for _, r := range records {
		if b.Apply(r) != api.OK {
			return nil
		}
	}
	return b
}

// The log of a table gives the table again, and less of it doesn't.
func TestP11_7LogGivesTheTable(t *testing.T) {
	d := dice(117)
	for range 150 {
		n := 1 + d.below(7)
		b := fresh(t, n)
		for range d.below(60) {
			b.Apply(d.record(n))
		}
		log, is := b.Log(), viewOf(b)
		again := replayed(n, log)
		if again == nil {
			t.Fatalf("a record of the log %+v is refused", log)
		}
		if v := viewOf(again); !sameView(v, is) {
			t.Fatalf("the log makes %+v, of the table %+v", v, is)
		}
		for i := range log {
			less := replayed(n, slices.Delete(slices.Clone(log), i, i+1))
			if less != nil && sameSlots(less.Slots(), b.Slots()) {
				t.Errorf("%s can be left out of %+v", short(log[i]), log)
			}
		}
		if len(log) != leastOf(b.Slots()) {
			t.Errorf("%d records for %+v, want %d", len(log), b.Slots(), leastOf(b.Slots()))
		}
	}
}

// leastOf: a slot takes a record, and a second one where both a vote and a later promise are to be told.
func leastOf(slots []api.Slot) int {
	least := len(slots)
	for _, s := range slots {
		if (s.State == 1 || s.State == 2) && s.Bal != s.VBal {
			least++
		}
	}
	return least
}

// No single record gives a slot whose log has two, whatever other records there are.
func TestP11_7NoShorterList(t *testing.T) {
	for _, s := range starts() {
		slots := fresh(t, 3, s.records...).Slots()
		log := fresh(t, 3, s.records...).Log()
		if len(log) < 2 {
			continue
		}
		for _, r := range append(append(small(x), s.records...), log...) {
			for _, ballot := range []api.Ballot{r.Bal, slots[0].Bal, slots[0].VBal} {
				r.Bal = ballot
				if b := replayed(3, []api.Record{r}); b != nil && sameSlots(b.Slots(), slots) {
					t.Errorf("%s alone gives %s", short(r), tell(slots[0]))
				}
			}
		}
	}
}

// The log of a table made from a log is that log.
func TestP11_7LogOfTheLog(t *testing.T) {
	d := dice(118)
	for range 100 {
		n := 1 + d.below(7)
		b := fresh(t, n)
		for range 50 {
			b.Apply(d.record(n))
		}
		logIs(t, fresh(t, n, b.Log()...), b.Log()...)
	}
}
