package table_test

import (
	"slices"
	"testing"

	"moot/api"
	"moot/command"
	"moot/table"
	"moot/vector"
)

// What follows from the rules: P11.9.

// A slot's Bal never falls while it isn't committed, and is never below its VBal.
// A vote never falls either; what is committed stays; no slot goes.
func TestP11_9NothingFalls(t *testing.T) {
	d := dice(191)
	for range 150 {
		n := 1 + d.below(7)
		m, b := newModel(n), fresh(t, n)
		for range 80 {
			before := b.Slots()
			r := d.step(m)
			m.apply(r)
			b.Apply(r)
			for _, was := range before {
				is, ok := b.Slot(was.Inst)
				if !ok || !mayBecome(was, is) {
					t.Fatalf("%s made %s of %s", short(r), tell(is), tell(was))
				}
			}
			for _, s := range b.Slots() {
				if s.State != 3 && rank(s.Bal) < rank(s.VBal) {
					t.Fatalf("%s is promised less than it has voted", tell(s))
				}
			}
		}
	}
}

// mayBecome tells whether a slot may follow another one, by one record.
func mayBecome(was, is api.Slot) bool {
	if was.State == 3 || is.State == 3 {
		return was.State < 3 || sameSlot(was, is)
	}
	if was.State > 0 && (is.State == 0 || rank(is.VBal) < rank(was.VBal)) {
		return false
	}
	if was.State > 0 && is.VBal == was.VBal && is.State < was.State {
		return false
	}
	return rank(is.Bal) >= rank(was.Bal)
}

// permutations hands every order of the records to a function.
func permutations(records []api.Record, k int, do func([]api.Record)) {
	if k == len(records) {
		do(records)
		return
	}
	for i := k; i < len(records); i++ {
		records[k], records[i] = records[i], records[k]
		permutations(records, k+1, do)
		records[k], records[i] = records[i], records[k]
	}
}

// One record each of different instances, in all orders: the same table.
func TestP11_9EveryOrder(t *testing.T) {
	d := vec(1, 2, 3)
	records := []api.Record{sameVoted(in(0, 1), p, 1, d), accepted(in(0, 2), bal(1, 1), q, 9, d), committed(in(1, 1), count("a", "z"), 4, d), promise(in(2, 7), bal(3, 0)), noopAt(in(2, 6), bal(-1, 0), 3), committed(in(2, 1), pair(api.Move, "k", "l"), 5, vec(0, 8, 0))}
	want := viewOf(fresh(t, 3, records...))
	orders := 0
	permutations(slices.Clone(records), 0, func(order []api.Record) {
		orders++
		if is := viewOf(fresh(t, 3, order...)); !sameView(is, want) {
			t.Fatalf("in the order %+v: %+v, want %+v", order, is, want)
		}
	})
	if orders != 720 {
		t.Errorf("%d orders were tried", orders)
	}
}

// Lists of records of different instances, laid into one another in several ways:
// each record has the same answer, and the table is the same at the end.
func TestP11_9EveryInterleaving(t *testing.T) {
	d := dice(192)
	for range 60 {
		n := 1 + d.below(7)
		rows := map[api.Inst][]api.Record{}
		var insts []api.Inst
		m := newModel(n)
		for range 40 {
			r := d.again(m, d.record(n))
			m.apply(r)
			if rows[r.Inst] == nil {
				insts = append(insts, r.Inst)
			}
			rows[r.Inst] = append(rows[r.Inst], r)
		}
		firstView, firstAnswers := interleaved(t, &d, n, rows, nil)
		for range 4 {
			if v, answers := interleaved(t, &d, n, rows, insts); !sameView(v, firstView) || !sameAnswers(answers, firstAnswers) {
				t.Fatalf("in another order: %+v, %v, want %+v, %v", v, answers, firstView, firstAnswers)
			}
		}
	}
}

// interleaved applies the rows by turns, if insts tell which there are, else one behind the other.
func interleaved(t *testing.T, d *dice, n int, rows map[api.Inst][]api.Record, insts []api.Inst) (view, map[api.Inst][]api.Errno) {
	t.Helper()
	b, answers := table.New(n), map[api.Inst][]api.Errno{}
	if insts == nil {
		for x, records := range rows {
			for _, r := range records {
				answers[x] = append(answers[x], b.Apply(r))
			}
		}
		return viewOf(b), answers
	}
	left := slices.Clone(insts)
	for len(left) > 0 {
		i := d.below(len(left))
		x := left[i]
		answers[x] = append(answers[x], b.Apply(rows[x][len(answers[x])]))
		if len(answers[x]) == len(rows[x]) {
			left = slices.Delete(left, i, i+1)
		}
	}
	return viewOf(b), answers
}

func sameAnswers(a, b map[api.Inst][]api.Errno) bool {
	for x, list := range a {
		if !slices.Equal(list, b[x]) {
			return false
		}
	}
	return len(a) == len(b)
}

// As long as the slot of x conflicts with c, whoever asks for c anywhere else waits for x and comes behind it.
func TestP11_9ConflictsAreWaitedFor(t *testing.T) {
	d, met := dice(193), 0
	for range 60 {
		n := 1 + d.below(7)
		b := fresh(t, n)
		for range 40 {
			b.Apply(d.record(n))
		}
		for range 20 {
			c, y := d.anyCommand(), in(d.below(n+1), pick(&d, []int{0, 1, 2, 3, 4, 5, 11, topNum}))
			seq, deps := b.Attrs(c, y)
			if (c.Kind == 0) != (seq == 0) || !vector.Covers(filled(n, topNum), deps) || seq > topSeq {
				t.Fatalf("Attrs(%+v, %v) = %d, %v", c, y, seq, deps)
			}
			for _, s := range b.Slots() {
				if s.Inst == y || !command.Conflict(c, s.Cmd) {
					continue
				}
				met++
				if !vector.Holds(deps, s.Inst) || seq <= s.Seq && seq != topSeq {
					t.Fatalf("Attrs(%+v, %v) = %d, %v doesn't wait for %s", c, y, seq, deps, tell(s))
				}
			}
		}
	}
	if met < 1000 {
		t.Errorf("only %d conflicts were met", met)
	}
}
