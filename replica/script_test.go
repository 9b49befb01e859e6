package replica_test

import (
	"reflect"
	"slices"
	"testing"

	"moot/api"
)

// gives takes what a replica has to give out, makes it safe, and lets it go.
func (w *world) gives(id int) {
	w.t.Helper()
	w.take(id)
	w.sync(id, len(w.lives[id].log))
}

// pass delivers all there is on the way from one to another, and what comes of it goes out.
func (w *world) pass(from, to int) {
	w.t.Helper()
	there := 0
	for i := 0; i < len(w.air); {
		if f := w.air[i]; f.from != from || f.to != to {
			i++
			continue
		}
		w.deliver(i)
		w.lose(i)
		there++
	}
	if there == 0 {
		w.t.Fatalf("nothing is on the way from %d to %d", from, to)
	}
	w.gives(to)
}

// between sends all there is from one to some others, and their answers back.
func (w *world) between(id int, with ...int) {
	w.t.Helper()
	for _, other := range with {
		w.pass(id, other)
	}
	for _, other := range with {
		w.pass(other, id)
	}
}

func (w *world) loseAll() { w.air = nil }

func (w *world) losesOf(from int) {
	w.air = slices.DeleteFunc(w.air, func(f flight) bool { return f.from == from })
}

// recover begins a recovery, which goes out.
func (w *world) recover(id int, x api.Inst) {
	w.t.Helper()
	recovers(w.t, w.lives[id].r, x)
	w.gives(id)
}

// isSafe asks for an instance to be committed with this.
func (w *world) isSafe(r api.Record) {
	w.t.Helper()
	if is, ok := w.commits[r.Inst]; !ok || !reflect.DeepEqual(is, r) {
		w.t.Fatalf("%+v is committed (%v), want %+v", is, ok, r)
	}
}

func (w *world) leads(id int, x api.Inst, phase int) {
	w.t.Helper()
	if is, _, _ := w.lives[id].r.Lead(x); is != phase {
		w.t.Fatalf("replica %d leads %v in phase %d, want %d", id, x, is, phase)
	}
}

// The row's owner commits the fast way, and falls down for good before anybody has heard of it.
func TestP13_16FastCommitIsFoundAgain(t *testing.T) {
	d, x, y := dice(1), in(0, 1), in(4, 1)
	w := newWorld(t, &d, 5)
	w.propose(0, p)
	w.gives(0)
	w.between(0, 1, 2, 3)
	w.isSafe(committed(x, p, 1, filled(5, 0)))
	w.crash(0)
	w.loseAll()

	w.propose(4, q) // 4 has never heard of x
	w.gives(4)
	w.between(4, 1, 2)
	w.leads(4, y, 2)
	w.between(4, 2, 3)
	w.isSafe(committed(y, q, 2, vec(1, 0, 0, 0, 0)))

	w.recover(1, x)
	w.between(1, 4, 2)
	w.leads(1, x, 2)
	w.between(1, 4, 3)
	if s, _ := slotOf(w.lives[1].r, x); s.State != 3 {
		t.Fatalf("the slot is %+v", s)
	}
	w.calm()
	w.ended()
	w.isSafe(committed(x, p, 1, filled(5, 0)))
}

// The owner waits for one more reply, when others take its instance over: that reply comes too late.
func TestP13_16TheOwnerIsTooLate(t *testing.T) {
	d, x := dice(2), in(0, 1)
	w := newWorld(t, &d, 5)
	w.propose(0, p)
	w.gives(0)
	w.between(0, 1, 2)
	w.pass(0, 3)
	w.leads(0, x, 1)
	w.pass(0, 4)
	w.losesOf(4)
	w.recover(4, x)
	w.between(4, 0, 1) // the owner has promised
	w.leads(0, x, 0)
	w.pass(3, 0)
	if _, ok := w.commits[x]; ok {
		t.Fatalf("it is committed")
	}
	w.leads(4, x, 1)
	w.between(4, 2, 3)
	w.leads(4, x, 2)
	w.between(4, 2, 3)
	w.isSafe(committed(x, p, 1, filled(5, 0)))
	w.calm()
	w.ended()
}

// What a crash took has never been: the next life may give the same instance to another command.
func TestP13_16NothingWentOut(t *testing.T) {
	d, x := dice(3), in(0, 1)
	w := newWorld(t, &d, 3)
	w.propose(0, p)
	w.take(0)
	if len(w.air) != 0 {
		t.Fatalf("%+v went out ahead of its record", w.air)
	}
	w.lives[0].log = nil
	w.crash(0)
	w.start(0)
	w.propose(0, q)
	w.gives(0)
	w.between(0, 2)
	w.isSafe(committed(x, q, 1, vec(0, 0, 0)))
	w.calm()
	w.ended()
}

// A commit that a crash took is none: the owner says that it hasn't committed, and its vote counts as any other's.
func TestP13_16CommitThatACrashTook(t *testing.T) {
	d, x, y := dice(4), in(0, 1), in(2, 1)
	w := newWorld(t, &d, 3)
	w.propose(0, p)
	w.gives(0)
	w.pass(0, 1)
	w.propose(2, q)
	w.gives(2)
	w.between(2, 1)
	timesOut(t, w.lives[2].r, y)
	w.gives(2)
	w.between(2, 1)
	w.isSafe(committed(y, q, 2, vec(1, 0, 0)))

	w.deliver(slices.IndexFunc(w.air, func(f flight) bool { return f.from == 1 && f.to == 0 }))
	w.take(0)
	w.lives[0].log = w.lives[0].log[:1]
	w.lives[0].safe = 1
	w.crash(0)
	w.start(0)
	w.loseAll()
	if _, ok := w.commits[x]; ok {
		t.Fatalf("it is committed")
	}
	w.recover(2, x)
	w.between(2, 0)
	w.leads(2, x, 1)
	w.between(2, 1)
	w.leads(2, x, 2)
	w.between(2, 1)
	w.isSafe(committed(x, p, 3, vec(0, 0, 1))) // now each of both waits for the other
	w.isSafe(committed(y, q, 2, vec(1, 0, 0)))
	w.calm()
	w.ended()
}

// All messages twice, the last ones first: it all comes out as if they came once and in order.
func TestP13_16Twice(t *testing.T) {
	for _, n := range sizes() {
		d := dice(5)
		w := newWorld(t, &d, n)
		for id := range n {
			w.propose(id, put("k", string(rune('a'+id))))
		}
		for range 40 {
			for id := range n {
				w.gives(id)
			}
			now := w.air
			w.air = nil
			slices.Reverse(now)
			for _, f := range append(now, now...) {
				if e := w.lives[f.to].r.Receive(f.from, f.m); e != api.OK {
					t.Fatalf("Receive(%d, %+v) = %d", f.from, f.m, e)
				}
			}
		}
		if len(w.air) > 0 || len(w.commits) != n {
			t.Fatalf("among %d there are %d commits, and %d messages", n, len(w.commits), len(w.air))
		}
		w.calm()
		w.ended()
	}
}

// Two that each propose and recover the other's come to an end, and to the same.
func TestP13_16TwoRecoverAtOnce(t *testing.T) {
	d, x := dice(6), in(0, 1)
	w := newWorld(t, &d, 3)
	w.propose(0, p)
	w.gives(0)
	w.pass(0, 1)
	w.pass(0, 2)
	w.loseAll()
	w.recover(1, x)
	w.recover(2, x)
	w.pass(1, 2) // below 2's ballot: a Nack
	w.pass(2, 1) // the Nack, and 2's Prepare
	w.leads(1, x, 0)
	w.pass(1, 2)
	w.leads(2, x, 2) // 1 and 2 are without the owner
	w.between(2, 0)
	w.isSafe(committed(x, p, 1, vec(0, 0, 0)))
	w.calm()
	w.ended()
}
