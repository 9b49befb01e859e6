package replica_test

import (
	"testing"

	"moot/api"
	"moot/replica"
)

// What has gathered over many calls comes out at once, in its order, and only once.
func TestP13_11Take(t *testing.T) {
	x, y, z, zero := in(0, 1), in(0, 2), in(1, 1), vec(0, 0, 0)
	r := replica.New(0, 3)
	takesNothing(t, r)
	proposes(t, r, p, x)
	receives(t, r, 1, preAccept(z, bal(0, 1), get("z"), 1, zero))
	proposes(t, r, q, y)
	receives(t, r, 2, preAcceptOK(x, bal(0, 0), 1, zero))
	timesOut(t, r, y)
	receives(t, r, 2, prepare(y, bal(2, 2)))
	receives(t, r, 1, want(x))
	takes(t, r, records(
		sameVoted(x, p, 1, zero), sameVoted(z, get("z"), 1, zero), sameVoted(y, q, 2, vec(1, 0, 0)), committed(x, p, 1, zero), promise(y, bal(2, 2)),
	), outs(
		to(1, preAccept(x, bal(0, 0), p, 1, zero)), to(2, preAccept(x, bal(0, 0), p, 1, zero)),
		to(1, preAcceptOK(z, bal(0, 1), 1, zero)),
		to(1, preAccept(y, bal(0, 0), q, 2, vec(1, 0, 0))), to(2, preAccept(y, bal(0, 0), q, 2, vec(1, 0, 0))),
		to(1, commit(x, p, 1, zero)), to(2, commit(x, p, 1, zero)),
		to(1, preAccept(y, bal(0, 0), q, 2, vec(1, 0, 0))), to(2, preAccept(y, bal(0, 0), q, 2, vec(1, 0, 0))),
		to(2, same(y, bal(2, 2), q, 2, vec(1, 0, 0))),
		to(1, commit(x, p, 1, zero)),
	))
	for range 3 {
		takesNothing(t, r)
	}
	timesOut(t, r, x)
	takes(t, r, nil, all(3, 0, commit(x, p, 1, zero)))
	takesNothing(t, r)
	receives(t, r, 1, commit(z, get("z"), 1, zero))
	takes(t, r, records(committed(z, get("z"), 1, zero)), nil)
	takesNothing(t, r)
}

// Whether it is taken step by step or at the end, all that comes out is the same.
func TestP13_11InOnceOrInParts(t *testing.T) {
	d := dice(1311)
	for range 100 {
		n := pick(&d, sizes())
		id := d.below(n)
		often, once := fresh(t, id, n), fresh(t, id, n)
		var rs []api.Record
		var os []api.Out
		for range 60 {
			from, m, c, what, x := d.below(n), d.message(n), d.command(), d.below(8), d.inst(n)
			for _, r := range []*replica.Replica{often, once} {
				switch what {
				case 0:
					r.Propose(c)
				case 1:
					r.Recover(x)
				case 2:
					r.Timeout(x)
				case 3:
					r.Want(x)
				default:
					r.Receive(from, m)
				}
			}
			a, b := often.Take()
			rs, os = append(rs, a...), append(os, b...)
		}
		takesNothing(t, often)
		takes(t, once, rs, os)
		takesNothing(t, once)
	}
}

// Giving out changes neither leads nor slots.
func TestP13_11TakeAlone(t *testing.T) {
	for _, n := range sizes() {
		for _, l := range eachLed(t, n) {
			was := viewOf(l.r)
			takesNothing(t, l.r)
			timesOut(t, l.r, l.x)
			l.r.Take()
			if is := viewOf(l.r); lines([]view{is}) != lines([]view{was}) {
				t.Fatalf("Take made %+v of %+v", is, was)
			}
		}
	}
}

func TestP13_12Lead(t *testing.T) {
	for _, n := range sizes() {
		for _, l := range eachLed(t, n) {
			for _, x := range append(noInsts(n), in(l.x.Row, 2), in(1-l.x.Row, 1), in(2, 1), in(2, 2), in(2, 9), in(l.x.Row, topNum), in(l.x.Row+256, 1), in(l.x.Row, 1+1<<32)) {
				noLead(t, l.r, x)
				noLead(t, replica.New(0, n), x)
			}
			leadIs(t, l.r, l.x, l.phase, l.b, 0)
			if n > 3 {
				receives(t, l.r, 3, replies(l)[l.phase-1])
				leadIs(t, l.r, l.x, l.phase, l.b, 1)
			}
			if n > 5 {
				receives(t, l.r, 6, replies(l)[l.phase-1])
				leadIs(t, l.r, l.x, l.phase, l.b, 2)
			}
		}
	}
	r := fresh(t, 1, 3, stored()...) // slots without a lead
	for _, s := range storedSlots() {
		noLead(t, r, s.Inst)
	}
}

// Each instance has a lead of its own.
func TestP13_12ManyLeads(t *testing.T) {
	r := fresh(t, 1, 5, committed(in(2, 1), p, 1, vec(3, 3, 3, 3, 3)))
	for i := range 4 {
		proposes(t, r, p, in(1, i+1))
	}
	for i := range 3 {
		recovers(t, r, in(0, i+1))
	}
	receives(t, r, 3, preAcceptOK(in(1, 2), bal(0, 1), 77, filled(5, 0)))
	receives(t, r, 3, none(in(0, 3), bal(1, 1)))
	receives(t, r, 3, commit(in(1, 4), p, 1, filled(5, 0)))
	leadIs(t, r, in(1, 1), 1, bal(0, 1), 0)
	leadIs(t, r, in(1, 2), 1, bal(0, 1), 1)
	leadIs(t, r, in(1, 3), 1, bal(0, 1), 0)
	noLead(t, r, in(1, 4))
	leadIs(t, r, in(0, 1), 3, bal(1, 1), 0)
	leadIs(t, r, in(0, 2), 3, bal(1, 1), 0)
	leadIs(t, r, in(0, 3), 3, bal(1, 1), 1)
}

func TestP13_13Slots(t *testing.T) {
	r, zero := replica.New(1, 3), vec(0, 0, 0)
	slotsAre(t, r)
	receives(t, r, 2, commit(in(2, 3), q, 4, vec(0, 0, 2)))
	receives(t, r, 0, prepare(in(2, 1), bal(1, 0)))
	proposes(t, r, p, in(1, 1))
	receives(t, r, 0, preAccept(in(0, topNum), bal(0, 0), get("z"), 1, zero))
	receives(t, r, 0, accept(in(0, 9), bal(0, 0), get("z"), 1, zero))
	recovers(t, r, in(2, 2))
	proposes(t, r, get("y"), in(1, 2))
	receives(t, r, 2, want(in(0, 1)))
	receives(t, r, 2, acceptOK(in(2, 9), bal(1, 1)))
	want := []api.Slot{
		{Inst: in(0, 9), Bal: bal(0, 0), VBal: bal(0, 0), State: 2, Cmd: get("z"), Seq: 1, Deps: zero},
		{Inst: in(0, topNum), Bal: bal(0, 0), VBal: bal(0, 0), State: 1, Same: true, Cmd: get("z"), Seq: 1, Deps: zero},
		{Inst: in(1, 1), Bal: bal(0, 1), VBal: bal(0, 1), State: 1, Same: true, Cmd: p, Seq: 5, Deps: vec(0, 0, 3)},
		{Inst: in(1, 2), Bal: bal(0, 1), VBal: bal(0, 1), State: 1, Same: true, Cmd: get("y"), Seq: 1, Deps: zero},
		{Inst: in(2, 1), Bal: bal(1, 0)},
		{Inst: in(2, 2), Bal: bal(1, 1)},
		{Inst: in(2, 3), Bal: bal(0, 2), State: 3, Cmd: q, Seq: 4, Deps: vec(0, 0, 2)},
	}
	slotsAre(t, r, want...)
	slotsAre(t, r, want...)
	r.Take()
	slotsAre(t, r, want...)
}
