package table_test

import (
	"slices"
	"testing"

	"moot/api"
	"moot/table"
)

// room is a list with much spare room, and the whole that it is cut out of.
func room[T any](list []T, mark T) (cut, whole []T) {
	whole = append([]T{mark}, list...)
	for range 20 {
		whole = append(whole, mark)
	}
	return whole[1 : 1+len(list)], whole
}

// spoil writes x over a list and its spare room.
func spoil[T any](list []T, x T) {
	list = list[:cap(list)]
	for i := range list {
		list[i] = x
	}
}

// own writes every list full with a mark of its own, spare room and all: where two share memory a mark is lost.
func own(t *testing.T, lists [][]int) {
	t.Helper()
	for i, l := range lists {
		spoil(l, -1-i)
	}
	for i, l := range lists {
		for _, x := range l[:cap(l)] {
			if x != -1-i {
				t.Errorf("list %d shares memory with another", i)
				break
			}
		}
	}
}

// all are records that make a table among 3 replicas with slots of all States, and some overtaken ones among them.
func all() []api.Record {
	return []api.Record{
		sameVoted(in(0, 1), p, 1, vec(0, 0, 0)), promise(in(0, 1), bal(1, 1)),
		accepted(in(0, 2), bal(1, 0), q, 3, vec(1, 2, 3)), promise(in(0, 2), bal(2, 0)),
		voted(in(1, 1), bal(0, 1), count("a", "l"), 4, vec(2, 0, 4)),
		sameVoted(x, p, 2, vec(9, 9, 9)), accepted(x, first, p, 5, vec(3, 4, 5)), committed(x, p, 6, vec(2, 1, 7)),
		noopAt(in(2, 1), bal(0, 2), 3), noopAt(in(2, 2), bal(-1, 0), 3),
		promise(in(2, 7), bal(1, 0)),
		committed(in(2, 8), pair(api.Copy, "k", "m"), 7, vec(0, 5, 0)),
	}
}

// A record that is handed in is left as it was, spare room too, taken or not, and none of it is kept.
func TestP11_8RecordsHandedIn(t *testing.T) {
	given := append(all(), all()...)
	for _, records := range wrong() {
		given = append(given, records...)
	}
	m, b := newModel(3), fresh(t, 3)
	for _, r := range given {
		deps, whole := room(r.Deps, -77)
		r.Deps = deps
		was, numbers := r, slices.Clone(whole)
		b.Apply(r)
		if !sameRecords([]api.Record{r}, []api.Record{was}) || !slices.Equal(whole, numbers) {
			t.Errorf("Apply made %s of %s, %v of its list %v", short(r), short(was), whole, numbers)
		}
		m.apply(r)
		before := viewOf(b)
		spoil(whole, 5)
		if !sameView(viewOf(b), before) {
			t.Errorf("%s is kept", short(was))
		}
		slotsAre(t, b, m.slots()...)
	}
}

// A commit that is held already doesn't bring its list into the table either.
func TestP11_8CommitHeldTwice(t *testing.T) {
	b := fresh(t, 3, all()...)
	was := viewOf(b)
	deps, whole := room(vec(2, 1, 7), 0)
	applies(t, b, committed(x, p, 6, deps), api.OK)
	spoil(whole, 5)
	if is := viewOf(b); !sameView(is, was) {
		t.Errorf("the table became %+v", is)
	}
	applies(t, b, committed(x, p, 6, vec(2, 1, 7)), api.OK)
	applies(t, b, committed(x, p, 6, vec(5, 5, 5)), api.ErrTableClash)
}

// Spare room behind a list is none of it.
func TestP11_8SpareRoomIsNotRead(t *testing.T) {
	b := fresh(t, 3)
	applies(t, b, committed(x, p, 1, filled(5, 0)[:2]), api.ErrRecAttr)
	applies(t, b, committed(x, p, 1, filled(5, 4)[:3]), api.OK)
	slotIs(t, b, api.Slot{Inst: x, Bal: first, State: 3, Cmd: p, Seq: 1, Deps: vec(4, 4, 4)})
	stays(t, b, committed(x, p, 1, append(vec(4, 4, 4), 9)[:3]))
}

// looks are the lists that one look of each kind hands out.
type looks struct {
	slots   []api.Slot
	log     []api.Record
	vectors [][]int
}

func looksOf(b *table.Table) looks {
	l := looks{slots: b.Slots(), log: b.Log()}
	for _, s := range l.slots {
		one, _ := b.Slot(s.Inst)
		_, deps := b.Attrs(s.Cmd, s.Inst)
		_, free := b.Attrs(q, in(-1, 0))
		_, none := b.Attrs(api.Cmd{}, s.Inst)
		l.vectors = append(l.vectors, s.Deps, one.Deps, deps, free, none)
	}
	for _, r := range l.log {
		l.vectors = append(l.vectors, r.Deps)
	}
	return l
}

func (l looks) spoil() {
	for _, v := range l.vectors {
		spoil(v, -1)
		_ = append(v, -2)
	}
	spoil(l.slots, api.Slot{State: 77, Deps: []int{7}})
	spoil(l.log, api.Record{Kind: 77, Deps: []int{7}})
}

// Whatever is written into what was handed out, no later answer shows it.
func TestP11_8ListsHandedOut(t *testing.T) {
	b := fresh(t, 3)
	looksOf(b).spoil()
	for _, r := range all() {
		applies(t, b, r, api.OK)
		was := viewOf(b)
		looksOf(b).spoil()
		if is := viewOf(b); !sameView(is, was) {
			t.Fatalf("the table became %+v, of %+v", is, was)
		}
	}
	logIs(t, b, fresh(t, 3, all()...).Log()...)
}

// No two lists of one answer, or of two, share memory.
func TestP11_8ListsAreNewMemory(t *testing.T) {
	b := fresh(t, 3, all()...)
	var vectors [][]int
	for range 3 {
		vectors = append(vectors, looksOf(b).vectors...)
	}
	own(t, vectors)
	first, second := looksOf(b), looksOf(b)
	_ = append(first.slots, api.Slot{State: 88})
	_ = append(first.log, api.Record{Kind: 88})
	first.spoil()
	if want := looksOf(b); !sameSlots(second.slots, want.slots) || !sameRecords(second.log, want.log) {
		t.Errorf("one answer shows what was written into another: %+v", second)
	}
}

// What was handed out stays as it was, whatever the table does.
func TestP11_8AnswersStay(t *testing.T) {
	b, m := fresh(t, 3, all()...), newModel(3)
	for _, r := range all() {
		m.apply(r)
	}
	slots, log := b.Slots(), b.Log()
	one, _ := b.Slot(in(0, 2))
	seq, deps := b.Attrs(q, in(0, 9))
	for _, r := range []api.Record{promise(in(0, 2), bal(3, 0)), accepted(in(0, 2), bal(3, 0), p, 9, vec(8, 8, 8)), committed(in(0, 1), q, 9, vec(8, 8, 8)), committed(in(1, 9), q, 99, vec(8, 8, 8))} {
		applies(t, b, r, api.OK)
	}
	want := m.slots()
	if !sameSlots(slots, want) || !sameRecords(log, logOf(want)) || !sameSlot(one, m.slot(in(0, 2))) {
		t.Errorf("what was handed out became %+v, %+v, %+v", slots, log, one)
	}
	if s, d := attrsOf(want, 3, q, in(0, 9)); s != seq || !slices.Equal(d, deps) {
		t.Errorf("the attributes became %d, %v", seq, deps)
	}
}

// A table's records or slots, handed on to another table and written over, change neither.
func TestP11_8TwoTables(t *testing.T) {
	a, b := fresh(t, 3, all()...), fresh(t, 3)
	log := a.Log()
	for _, r := range log {
		applies(t, b, r, api.OK)
	}
	was := viewOf(a)
	for _, r := range log {
		spoil(r.Deps, 6)
	}
	spoil(log, api.Record{})
	if is := viewOf(b); !sameView(viewOf(a), was) || !sameView(is, was) {
		t.Errorf("the tables became %+v and %+v", viewOf(a), is)
	}
	applies(t, b, committed(in(0, 1), q, 50, vec(5, 5, 5)), api.OK)
	applies(t, b, committed(in(1, 40), q, 60, vec(6, 6, 6)), api.OK)
	applies(t, b, noopAt(in(1, 1), bal(5, 0), 3), api.OK)
	if is := viewOf(a); !sameView(is, was) {
		t.Errorf("the table became %+v by another's records", is)
	}
	if is := viewOf(fresh(t, 3)); !sameView(is, viewOf(table.New(3))) || len(is.Slots) != 0 {
		t.Errorf("a new table shows %+v", is)
	}
}

// Tables of several sizes that are filled by turns don't see one another.
func TestP11_8ByTurns(t *testing.T) {
	d := dice(118)
	for range 10 {
		var tables []*table.Table
		var models []*model
		for n := 1; n <= 7; n++ {
			tables, models = append(tables, fresh(t, n), fresh(t, n)), append(models, newModel(n), newModel(n))
		}
		for range 300 {
			i := d.below(len(tables))
			answersAlike(t, models[i], tables[i], d.step(models[i]))
		}
		for i := range tables {
			models[i].agrees(t, tables[i], &d)
		}
	}
}

// Every look, at wrong arguments too, leaves the table as it was.
func TestP11_8LooksChangeNothing(t *testing.T) {
	b := fresh(t, 3, all()...)
	was := viewOf(b)
	d := dice(119)
	for _, y := range append(noInsts(), in(0, 1), in(0, 7), x) {
		b.Slot(y)
		b.Known(y)
		b.Top(y.Row)
		b.Attrs(d.anyCommand(), y)
		b.Attrs(put("new", ""), y)
	}
	b.Slots()
	b.Log()
	if is := viewOf(b); !sameView(is, was) {
		t.Errorf("the table became %+v, of %+v", is, was)
	}
	applies(t, b, sameVoted(in(0, 7), p, 1, vec(0, 0, 0)), api.OK)
}
