package replica_test

import (
	"reflect"
	"slices"
	"testing"

	"moot/api"
	"moot/replica"
)

// roomy is a copy with spare room that has something in it.
func roomy(d []int) []int {
	if d == nil {
		return nil
	}
	wide := append(slices.Clone(d), 71, 72, 73)
	return wide[:len(d)]
}

// spoil overwrites a list, its spare room too.
func spoil(d []int) { mark(d, 4444) }

func mark(d []int, with int) {
	d = d[:cap(d)]
	for i := range d {
		d[i] = with
	}
}

// isRoomy tells whether a list that roomy made of d is as it was.
func isRoomy(wide, d []int) bool {
	return reflect.DeepEqual(wide, d) && (wide == nil || reflect.DeepEqual(wide[:len(d)+3], append(slices.Clone(d), 71, 72, 73)))
}

// spoilRecords, spoilOuts and spoilSlots overwrite all of what was handed out.
func spoilRecords(l []api.Record) {
	l = l[:cap(l)]
	for i := range l {
		spoil(l[i].Deps)
		l[i] = api.Record{Kind: 44, Inst: in(4, 4), Bal: bal(4, 4), Same: true, Cmd: put("four", "4"), Seq: 44, Deps: filled(4, 4)}
	}
}

func spoilOuts(l []api.Out) {
	l = l[:cap(l)]
	for i := range l {
		spoil(l[i].Msg.Deps)
		l[i] = to(44, api.Msg{Kind: 44, Inst: in(4, 4), Bal: bal(4, 4), Cmd: put("four", "4"), Seq: 44, Deps: filled(4, 4)})
	}
}

func spoilSlots(l []api.Slot) {
	l = l[:cap(l)]
	for i := range l {
		spoil(l[i].Deps)
		l[i] = api.Slot{Inst: in(4, 4), Bal: bal(4, 4), VBal: bal(4, 4), State: 44, Same: true, Cmd: put("four", "4"), Seq: 44, Deps: filled(4, 4)}
	}
}

// hands gives a message over in a list with spare room, asks for it to be left as it is, and spoils it then.
func hands(t *testing.T, r *replica.Replica, from int, m api.Msg) api.Errno {
	t.Helper()
	d := m.Deps
	m.Deps = roomy(d)
	e := r.Receive(from, m)
	if !isRoomy(m.Deps, d) {
		t.Fatalf("Receive(%d, %+v) changed the list, which was %v", from, m, d)
	}
	spoil(m.Deps)
	return e
}

// Whatever is written over that was handed in or out, nothing else shows it.
func TestP13_15Spoilt(t *testing.T) {
	d := dice(1315)
	for range 500 {
		n := pick(&d, sizes())
		b := newBoth(t, &d, d.below(n), n)
		spoilt := replica.New(b.m.id, n)
		for range 60 {
			b.stepSpoilt(spoilt)
			spoilSlots(spoilt.Slots())
			if got, want := viewOf(spoilt), viewOf(b.r); !reflect.DeepEqual(got, want) {
				t.Fatalf("it shows\n%s%+v\nwant\n%s%+v", lines(got.Slots), got.Leads, lines(want.Slots), want.Leads)
			}
			if d.below(4) == 0 {
				b.comparesSpoilt(spoilt)
			}
		}
		b.comparesSpoilt(spoilt)
	}
}

// comparesSpoilt takes what has gathered of all, and spoils what the one gives out.
func (b *both) comparesSpoilt(spoilt *replica.Replica) {
	b.t.Helper()
	rs, os := spoilt.Take()
	if !reflect.DeepEqual(bareRecords(rs), bareRecords(b.m.records)) || !reflect.DeepEqual(bareOuts(os), bareOuts(b.m.outs)) {
		b.t.Fatalf("Take: \n%s%swant\n%s%s", lines(rs), lines(os), lines(b.m.records), lines(b.m.outs))
	}
	spoilRecords(rs)
	spoilOuts(os)
	b.taken()
}

// stepSpoilt does one thing to all three, and spoils what it handed to the one.
func (b *both) stepSpoilt(spoilt *replica.Replica) {
	b.t.Helper()
	d, n := b.d, b.m.n
	x, c := d.inst(n), d.command()
	switch d.below(10) {
	case 0:
		b.m.propose(c)
		b.r.Propose(c)
		spoilt.Propose(c)
	case 1:
		b.m.recover(x)
		b.r.Recover(x)
		spoilt.Recover(x)
	case 2:
		b.m.timeout(x)
		b.r.Timeout(x)
		spoilt.Timeout(x)
	case 3:
		b.m.want(x)
		b.r.Want(x)
		spoilt.Want(x)
	default:
		m := d.fits(b.m, d.message(n))
		from := d.below(n)
		if m.Kind == 1 || m.Kind == 3 || m.Kind == 6 {
			from = m.Bal.Who
		}
		want := b.m.receive(from, m)
		b.r.Receive(from, m)
		if e := hands(b.t, spoilt, from, m); e != want {
			b.t.Fatalf("Receive(%d, %+v) = %d, want %d", from, m, e, want)
		}
	}
}

// The votes that a lead gathers are its own, whatever becomes of the messages that brought them.
func TestP13_15VotesAreKept(t *testing.T) {
	x, zero := in(1, 1), filled(5, 0)
	r := ledPreAccept(t, 5, x)
	hands(t, r, 0, preAcceptOK(x, bal(0, 1), 4, vec(0, 0, 0, 0, 1)))
	hands(t, r, 4, preAcceptOK(x, bal(0, 1), 2, vec(3, 0, 0, 0, 0)))
	goesOn(t, r, 5, accept(x, bal(0, 1), p, 4, vec(3, 0, 0, 0, 1)))

	r = ledPreAccept(t, 5, x) // at its end, too
	hands(t, r, 0, preAcceptOK(x, bal(0, 1), 4, vec(0, 0, 0, 0, 1)))
	hands(t, r, 3, preAcceptOK(x, bal(0, 1), 1, zero))
	timesOut(t, r, x)
	goesOn(t, r, 5, accept(x, bal(0, 1), p, 4, vec(0, 0, 0, 0, 1)))

	r = ledPrepare(t, 5, x)
	hands(t, r, 3, acc(x, bal(1, 1), bal(0, 1), q, 5, vec(1, 2, 3, 4, 5)))
	hands(t, r, 0, none(x, bal(1, 1)))
	goesOn(t, r, 5, accept(x, bal(1, 1), q, 5, vec(1, 2, 3, 4, 5)))
}

// A lead's question is sent again as it was, whatever became of the first ones.
func TestP13_15QuestionsAreKept(t *testing.T) {
	for _, n := range sizes() {
		for i := range eachLed(t, n) {
			l := eachLed(t, n)[i]
			timesOut(t, l.r, l.x)
			_, want := l.r.Take()
			want = bareOuts(want)
			for range 3 {
				timesOut(t, l.r, l.x)
				rs, os := l.r.Take()
				if len(rs) != 0 || len(os) != n-1 || !reflect.DeepEqual(bareOuts(os), want) {
					t.Fatalf("Timeout of %+v sent\n%swant\n%s", l, lines(os), lines(want))
				}
				spoilOuts(os)
				spoilSlots(l.r.Slots())
			}
		}
	}
}

// Load neither changes nor keeps the records, their lists, and the room behind them.
func TestP13_15Load(t *testing.T) {
	for range 3 {
		l := append(stored(), promise(in(2, 9), bal(1, 0)), promise(in(2, 9), bal(2, 0)))
		for i := range l {
			l[i].Deps = roomy(l[i].Deps)
		}
		given := l[:len(stored())]
		r, e := replica.Load(1, 3, given)
		if r == nil || e != api.OK {
			t.Fatalf("Load = %v, %d", r, e)
		}
		for i, rec := range append(stored(), promise(in(2, 9), bal(1, 0)), promise(in(2, 9), bal(2, 0))) {
			if d := l[i].Deps; !isRoomy(d, rec.Deps) || !reflect.DeepEqual(bareRecords(l[i:i+1]), bareRecords(records(rec))) {
				t.Fatalf("Load made %+v of %+v", l[i], rec)
			}
		}
		spoilRecords(given)
		slotsAre(t, r, storedSlots()...)
		spoilSlots(r.Slots())
		slotsAre(t, r, storedSlots()...)
		receives(t, r, 2, want(in(1, 5)))
		takes(t, r, nil, outs(to(2, commit(in(1, 5), p, 6, vec(2, 1, 7)))))
	}
}

// Load that fails leaves all as it is, too.
func TestP13_15LoadRefused(t *testing.T) {
	bad := committed(in(1, 5), p, 7, roomy(vec(2, 1, 7)))
	l := append(stored(), bad)
	loadFails(t, 1, 3, l, api.ErrTableClash)
	if !isRoomy(bad.Deps, vec(2, 1, 7)) || !reflect.DeepEqual(l, append(stored(), committed(in(1, 5), p, 7, vec(2, 1, 7)))) {
		t.Fatalf("Load made %+v", l)
	}
}

// handed is all lists that a life hands out, and the room behind them.
type handed struct{ lists [][]int }

func (h *handed) gather(rs []api.Record, os []api.Out, ss []api.Slot) {
	for _, r := range rs {
		h.lists = append(h.lists, r.Deps)
	}
	for _, o := range os {
		h.lists = append(h.lists, o.Msg.Deps)
	}
	for _, s := range ss {
		h.lists = append(h.lists, s.Deps)
	}
}

// apart asks for no two of the lists to have memory in common.
func (h *handed) apart(t *testing.T) {
	t.Helper()
	for i, d := range h.lists {
		mark(d, i)
	}
	for i, d := range h.lists {
		for _, x := range d[:cap(d)] {
			if x != i {
				t.Fatalf("of %d lists the ones at %d and at %d share memory", len(h.lists), i, x)
			}
		}
	}
}

// All lists of a life are apart: those of one answer, those of many, and those that were handed in.
func TestP13_15ListsAreApart(t *testing.T) {
	d := dice(13150)
	for range 200 {
		n := pick(&d, sizes())
		r, m := replica.New(1, n), newModel(1, n)
		h := &handed{}
		for range 60 {
			switch x := d.inst(n); d.below(8) {
			case 0:
				c := d.command()
				r.Propose(c)
				m.propose(c)
			case 1:
				r.Recover(x)
				m.recover(x)
			case 2:
				r.Timeout(x)
				m.timeout(x)
			default:
				w := d.fits(m, d.message(n))
				from := pick(&d, others(n, 1))
				if w.Kind == 1 || w.Kind == 3 || w.Kind == 6 {
					from = w.Bal.Who
				}
				m.receive(from, w)
				w.Deps = roomy(w.Deps)
				r.Receive(from, w)
				h.lists = append(h.lists, w.Deps)
			}
			if d.below(6) == 0 {
				rs, os := r.Take()
				h.gather(rs, os, r.Slots())
			}
		}
		was := bareSlots(r.Slots())
		h.apart(t)
		slotsAre(t, r, was...)
	}
}

// The list of records that was handed out is not written into by what comes behind.
func TestP13_15ListsStand(t *testing.T) {
	r := replica.New(0, 3)
	proposes(t, r, p, in(0, 1))
	rs, os := r.Take()
	wasRecords, wasOuts := bareRecords(rs), bareOuts(os)
	rs, os = append(rs, promise(in(2, 2), bal(1, 1))), append(os, to(1, want(in(2, 2))))
	proposes(t, r, q, in(0, 2))
	timesOut(t, r, in(0, 1))
	if !reflect.DeepEqual(bareRecords(rs[:1]), wasRecords) || !reflect.DeepEqual(bareOuts(os[:2]), wasOuts) {
		t.Fatalf("what was given out became %+v and %+v", rs, os)
	}
	if rs[1].Inst != in(2, 2) || os[2].Msg.Inst != in(2, 2) {
		t.Fatalf("what was laid behind became %+v and %+v", rs, os)
	}
	takes(t, r, records(sameVoted(in(0, 2), q, 2, vec(1, 0, 0))), append(all(3, 0, preAccept(in(0, 2), bal(0, 0), q, 2, vec(1, 0, 0))), all(3, 0, preAccept(in(0, 1), bal(0, 0), p, 1, vec(0, 0, 0)))...))
}
