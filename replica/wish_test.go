package replica_test

import (
	"testing"

	"moot/api"
	"moot/replica"
)

// wishFails asks for an error of a wish, and that it changes nothing.
func wishFails(t *testing.T, r *replica.Replica, what int, x api.Inst, want api.Errno) {
	t.Helper()
	name := []string{"", "Recover", "Timeout", "Want"}[what]
	leaves(t, r, name, want, func() api.Errno {
		return []func(api.Inst) api.Errno{nil, r.Recover, r.Timeout, r.Want}[what](x)
	})
}

func TestP13_5OutOfBounds(t *testing.T) {
	for _, n := range sizes() {
		wide := fresh(t, 1, n, committed(in(0, 1), p, 1, filled(n, topNum)), promise(in(n-1, topNum), bal(topRound, 0)))
		for _, r := range []*replica.Replica{replica.New(0, n), wide} {
			for _, x := range append(noInsts(n), in(n, 1), in(-1, 1), in(0, 0), in(0, topNum+1)) {
				for what := 1; what <= 3; what++ {
					wishFails(t, r, what, x, api.ErrArg)
				}
			}
		}
	}
}

// At the bounds all may be.
func TestP13_5AtTheBounds(t *testing.T) {
	for _, n := range sizes() {
		for _, x := range []api.Inst{in(0, 1), in(n-1, 1), in(0, topNum), in(n-1, topNum)} {
			wishFails(t, replica.New(0, n), 1, x, api.ErrUnknown)
			wishFails(t, replica.New(0, n), 2, x, api.ErrLead)
			wishFails(t, replica.New(0, n), 3, x, api.ErrUnknown)
			r := fresh(t, 1, n, committed(in(1, 1), p, 1, filled(n, topNum)))
			if x != in(1, 1) {
				recovers(t, r, x)
				takes(t, r, records(promise(x, bal(1, 1))), all(n, 1, prepare(x, bal(1, 1))))
			}
		}
	}
}

// recovered asks for all that a recovery brings about.
func recovered(t *testing.T, r *replica.Replica, id, n int, x api.Inst, b api.Ballot) {
	t.Helper()
	was, _ := slotOf(r, x)
	recovers(t, r, x)
	leadIs(t, r, x, 3, b, 0)
	takes(t, r, records(promise(x, b)), all(n, id, prepare(x, b)))
	was.Inst, was.Bal = x, b
	if is, ok := slotOf(r, x); !ok || lines(bareSlots([]api.Slot{is})) != lines(bareSlots([]api.Slot{was})) {
		t.Fatalf("the slot is %+v, want %+v", is, was)
	}
}

func TestP13_6Recover(t *testing.T) {
	x := in(1, 4)
	for _, n := range sizes() {
		zero := filled(n, 0)
		for id := range n {
			for _, l := range [][]api.Record{
				records(sameVoted(x, p, 1, zero)), records(voted(x, bal(0, 1), p, 2, zero)), records(accepted(x, bal(0, 1), p, 2, zero)),
				records(accepted(x, bal(0, 1), api.Cmd{}, 0, zero)), records(committed(in(0, 1), p, 2, with(zero, 1, 4))),
			} {
				recovered(t, fresh(t, id, n, l...), id, n, x, bal(1, id))
			}
			for _, b := range []api.Ballot{bal(1, 0), bal(1, id), bal(1, n-1), bal(7, 1), bal(topRound-1, n-1)} {
				for _, l := range [][]api.Record{
					records(promise(x, b)), records(voted(x, b, p, 1, zero)), records(accepted(x, b, p, 1, zero)),
					records(sameVoted(x, p, 1, zero), promise(x, b)),
				} {
					recovered(t, fresh(t, id, n, l...), id, n, x, bal(b.Round+1, id))
				}
			}
		}
	}
}

func TestP13_6Unknown(t *testing.T) {
	r := fresh(t, 0, 3, stored()...)
	for _, x := range []api.Inst{in(0, 3), in(0, 4), in(1, 6), in(1, topNum), in(2, 9), in(2, 10)} {
		wishFails(t, r, 1, x, api.ErrUnknown)
		wishFails(t, r, 3, x, api.ErrUnknown)
	}
	// Of these there is no slot, but some slot waits for them; {0,1} and {2,7} have slots.
	for _, x := range []api.Inst{in(1, 2), in(1, 3), in(1, 4), in(2, 3), in(2, 6)} {
		recovered(t, fresh(t, 0, 3, stored()...), 0, 3, x, bal(1, 0))
	}
	recovered(t, fresh(t, 0, 3, stored()...), 0, 3, in(0, 1), bal(2, 0))
	recovered(t, fresh(t, 0, 3, stored()...), 0, 3, in(2, 7), bal(2, 0))
}

func TestP13_6Done(t *testing.T) {
	for id := range 3 {
		r := fresh(t, id, 3, stored()...)
		for _, x := range []api.Inst{in(1, 5), in(2, 2), in(2, 8)} {
			wishFails(t, r, 1, x, api.ErrDone)
		}
		r = fresh(t, id, 3, promise(in(1, 5), bal(topRound, 2)), committed(in(1, 5), p, 6, vec(2, 1, 7)))
		wishFails(t, r, 1, in(1, 5), api.ErrDone) // not ErrRound: a committed slot has no ballot
	}
}

// MaxRound is the last: a slot there can't be recovered, one below it can, once.
func TestP13_6LastRound(t *testing.T) {
	x, zero := in(1, 4), vec(0, 0, 0)
	for id := range 3 {
		for who := range 3 {
			last := bal(topRound, who)
			for _, l := range [][]api.Record{records(promise(x, last)), records(voted(x, last, p, 1, zero)), records(accepted(x, last, p, 1, zero)), records(sameVoted(x, p, 1, zero), promise(x, last))} {
				wishFails(t, fresh(t, id, 3, l...), 1, x, api.ErrRound)
			}
			r := fresh(t, id, 3, promise(x, bal(topRound-1, who)))
			recovered(t, r, id, 3, x, bal(topRound, id))
			wishFails(t, r, 1, x, api.ErrRound)
			leadIs(t, r, x, 3, bal(topRound, id), 0)
		}
	}
}

// A lead of its own is gone with a recovery: what was told to it counts no more.
func TestP13_6OwnLead(t *testing.T) {
	x, zero := in(0, 1), filled(5, 0)
	r := replica.New(0, 5)
	proposes(t, r, p, x)
	receives(t, r, 1, preAcceptOK(x, bal(0, 0), 1, zero))
	r.Take()
	recovered(t, r, 0, 5, x, bal(1, 0))
	ignores(t, r, 2, preAcceptOK(x, bal(0, 0), 1, zero))
	ignores(t, r, 3, preAcceptOK(x, bal(0, 0), 1, zero))
	receives(t, r, 1, none(x, bal(1, 0)))
	leadIs(t, r, x, 3, bal(1, 0), 1)
	takesNothing(t, r)
	recovered(t, r, 0, 5, x, bal(2, 0)) // and again
	ignores(t, r, 2, none(x, bal(1, 0)))
	receives(t, r, 2, none(x, bal(2, 0)))
	leadIs(t, r, x, 3, bal(2, 0), 1)
}

// The own vote is the slot as it was when the recovery began.
func TestP13_6OwnVote(t *testing.T) {
	x, zero, d := in(0, 1), vec(0, 0, 0), vec(0, 3, 0)
	for _, c := range []struct {
		l    []api.Record
		want api.Msg
	}{
		{records(sameVoted(x, p, 1, zero)), accept(x, bal(1, 1), p, 1, zero)},
		{records(accepted(x, bal(0, 0), q, 4, d)), accept(x, bal(1, 1), q, 4, d)},
		{records(accepted(x, bal(0, 0), api.Cmd{}, 0, zero)), accept(x, bal(1, 1), api.Cmd{}, 0, zero)},
		{records(voted(x, bal(0, 0), q, 4, d)), preAccept(x, bal(1, 1), q, 1, zero)},
		{records(committed(in(2, 1), p, 2, vec(1, 0, 0))), accept(x, bal(1, 1), api.Cmd{}, 0, zero)},
		{records(promise(x, bal(7, 0))), accept(x, bal(8, 1), api.Cmd{}, 0, zero)},
	} {
		r := fresh(t, 1, 3, c.l...)
		recovers(t, r, x)
		r.Take()
		receives(t, r, 2, none(x, c.want.Bal))
		if _, os := r.Take(); lines(bareOuts(os)) != lines(all(3, 1, c.want)) {
			t.Errorf("%+v led to\n%swant\n%s", c.l, lines(os), lines(all(3, 1, c.want)))
		}
	}
}

// A committed instance is told to all, whatever it was asked for.
func TestP13_7TimeoutOfACommit(t *testing.T) {
	for id := range 3 {
		r := fresh(t, id, 3, stored()...)
		for range 2 {
			timesOut(t, r, in(1, 5))
			takes(t, r, nil, all(3, id, commit(in(1, 5), p, 6, vec(2, 1, 7))))
			timesOut(t, r, in(2, 2))
			takes(t, r, nil, all(3, id, commit(in(2, 2), api.Cmd{}, 0, vec(0, 0, 0))))
		}
		slotsAre(t, r, storedSlots()...)
	}
}

func TestP13_7NoLead(t *testing.T) {
	r := fresh(t, 0, 3, stored()...)
	for _, x := range []api.Inst{in(0, 1), in(0, 2), in(0, 3), in(0, 4), in(1, 1), in(2, 1), in(2, 7), in(2, topNum)} {
		wishFails(t, r, 2, x, api.ErrLead)
	}
	recovers(t, r, in(0, 1))
	receives(t, r, 2, prepare(in(0, 1), bal(9, 2)))
	r.Take()
	wishFails(t, r, 2, in(0, 1), api.ErrLead)
}

// asks holds a Timeout that sends the phase's message again against those who have not replied.
func asksAgain(t *testing.T, r *replica.Replica, x api.Inst, m api.Msg, ids ...int) {
	t.Helper()
	was := viewOf(r)
	for range 2 {
		timesOut(t, r, x)
		var want []api.Out
		for _, id := range ids {
			want = append(want, to(id, m))
		}
		takes(t, r, nil, want)
	}
	if is := viewOf(r); lines([]view{is}) != lines([]view{was}) {
		t.Fatalf("Timeout made %+v of %+v", is, was)
	}
}

// Phase 1 at round 0: below F replies the message is sent again; from F on the union is accepted.
func TestP13_7PreAcceptAtRoundZero(t *testing.T) {
	for _, n := range sizes() {
		f, zero := n/2, filled(n, 0)
		for replies := 0; replies <= 2*f-2 || replies <= f; replies++ {
			id := n - 1 // replies come of the lowest first
			r, x := replica.New(id, n), in(id, 1)
			proposes(t, r, p, x)
			r.Take()
			seq, deps := 1, zero
			for from := range replies {
				answer := preAcceptOK(x, first(x), 1, zero)
				if from == 0 { // just one differs, so that it waits on
					seq, deps = 5, with(zero, 1, 3)
					answer = preAcceptOK(x, first(x), seq, deps)
				}
				receives(t, r, from, answer)
			}
			leadIs(t, r, x, 1, first(x), replies)
			takesNothing(t, r)
			if replies < f {
				asksAgain(t, r, x, preAccept(x, first(x), p, 1, zero), others(n, id)[replies:]...)
				continue
			}
			timesOut(t, r, x)
			takes(t, r, records(accepted(x, first(x), p, seq, deps)), all(n, id, accept(x, first(x), p, seq, deps)))
			leadIs(t, r, x, 2, first(x), 0)
		}
	}
}

// With replies that all are equal to the lead's attributes, but too few, the union is just these.
func TestP13_7PreAcceptAllEqual(t *testing.T) {
	for _, n := range []int{5, 7} {
		for replies := n / 2; replies < 2*(n/2)-1; replies++ {
			r, x, zero := replica.New(1, n), in(1, 1), filled(n, 0)
			proposes(t, r, p, x)
			for _, from := range others(n, 1)[:replies] {
				receives(t, r, from, preAcceptOK(x, first(x), 1, zero))
			}
			r.Take()
			leadIs(t, r, x, 1, first(x), replies)
			timesOut(t, r, x)
			takes(t, r, records(accepted(x, first(x), p, 1, zero)), all(n, 1, accept(x, first(x), p, 1, zero)))
		}
	}
}

// The union of Timeout is the one of P13.10: the lead's attributes and those of all who have replied.
func TestP13_7Union(t *testing.T) {
	r, x := fresh(t, 0, 5, committed(in(4, 2), p, 6, filled(5, 0))), in(0, 1)
	proposes(t, r, p, x) // 7, [0 0 0 0 2]
	receives(t, r, 3, preAcceptOK(x, bal(0, 0), 7, vec(0, 0, 0, 0, 2)))
	receives(t, r, 1, preAcceptOK(x, bal(0, 0), 2, vec(0, 9, 1, 0, 0)))
	r.Take()
	timesOut(t, r, x)
	takes(t, r, records(accepted(x, bal(0, 0), p, 7, vec(0, 9, 1, 0, 2))), all(5, 0, accept(x, bal(0, 0), p, 7, vec(0, 9, 1, 0, 2))))
}

// Phase 1 above round 0: the message is sent again, as it was first sent.
func TestP13_7PreAcceptAboveRoundZero(t *testing.T) {
	for _, n := range []int{5, 7} {
		f, x, zero := n/2, in(0, 1), filled(n, 0)
		r := fresh(t, 2, n, voted(x, bal(0, 0), p, 9, filled(n, 4)))
		recovers(t, r, x)
		for _, from := range others(n, 2)[:f] {
			receives(t, r, from, none(x, bal(1, 2)))
		}
		r.Take()
		leadIs(t, r, x, 1, bal(1, 2), 0)
		asksAgain(t, r, x, preAccept(x, bal(1, 2), p, 1, zero), others(n, 2)...)
		receives(t, r, n-1, preAcceptOK(x, bal(1, 2), 3, filled(n, 1)))
		asksAgain(t, r, x, preAccept(x, bal(1, 2), p, 1, zero), others(n-1, 2)...)
		leadIs(t, r, x, 1, bal(1, 2), 1)
	}
}

// Phase 1 is told as it was first sent, whatever the table has come to know.
func TestP13_7AsItWasFirstSent(t *testing.T) {
	r, x, zero := replica.New(0, 3), in(0, 1), vec(0, 0, 0)
	proposes(t, r, p, x)
	receives(t, r, 1, commit(in(1, 1), q, 5, zero))
	r.Take()
	asksAgain(t, r, x, preAccept(x, bal(0, 0), p, 1, zero), 1, 2)
}

func TestP13_7Accept(t *testing.T) {
	for _, n := range sizes() {
		f, x, d := n/2, in(0, 1), filled(n, 2)
		for replies := range f {
			r := fresh(t, 1, n, accepted(x, bal(0, 0), p, 4, d))
			recovers(t, r, x)
			for _, from := range others(n, 1)[:f] {
				receives(t, r, from, none(x, bal(1, 1)))
			}
			r.Take()
			silent := others(n, 1)
			for range replies {
				receives(t, r, silent[len(silent)-1], acceptOK(x, bal(1, 1)))
				silent = silent[:len(silent)-1]
			}
			leadIs(t, r, x, 2, bal(1, 1), replies)
			asksAgain(t, r, x, accept(x, bal(1, 1), p, 4, d), silent...)
		}
	}
	r, x := fresh(t, 1, 3, promise(in(0, 1), bal(4, 0))), in(0, 1)
	recovers(t, r, x)
	receives(t, r, 2, none(x, bal(5, 1)))
	r.Take()
	asksAgain(t, r, x, accept(x, bal(5, 1), api.Cmd{}, 0, vec(0, 0, 0)), 0, 2)
}

// Phase 2 at round 0 is not phase 1: with replies, but too few, it asks again.
func TestP13_7AcceptAtRoundZero(t *testing.T) {
	r, x, zero := replica.New(0, 5), in(0, 1), filled(5, 0)
	proposes(t, r, p, x)
	receives(t, r, 1, preAcceptOK(x, bal(0, 0), 1, zero))
	receives(t, r, 2, preAcceptOK(x, bal(0, 0), 1, zero))
	timesOut(t, r, x)
	receives(t, r, 3, acceptOK(x, bal(0, 0)))
	r.Take()
	leadIs(t, r, x, 2, bal(0, 0), 1)
	asksAgain(t, r, x, accept(x, bal(0, 0), p, 1, zero), 1, 2, 4)
}

func TestP13_7Prepare(t *testing.T) {
	for _, n := range sizes() {
		x := in(0, 1)
		for replies := range n / 2 {
			r := fresh(t, 1, n, sameVoted(x, p, 4, filled(n, 2)))
			recovers(t, r, x)
			r.Take()
			silent := others(n, 1)
			for i := range replies {
				receives(t, r, silent[i], none(x, bal(1, 1)))
			}
			asksAgain(t, r, x, prepare(x, bal(1, 1)), silent[replies:]...)
		}
	}
}

func TestP13_8Want(t *testing.T) {
	for _, n := range sizes() {
		zero := filled(n, 0)
		for id := range n {
			r := fresh(t, id, n, committed(in(0, 2), p, 1, with(zero, 1, 3)), sameVoted(in(2, 1), q, 1, zero), promise(in(2, 2), bal(topRound, 0)), accepted(in(2, 3), bal(1, 0), q, 1, zero))
			for _, x := range []api.Inst{in(1, 1), in(1, 3), in(2, 1), in(2, 2), in(2, 3)} {
				was := viewOf(r)
				if e := r.Want(x); e != api.OK {
					t.Fatalf("Want(%v) = %d", x, e)
				}
				takes(t, r, nil, all(n, id, want(x)))
				if is := viewOf(r); lines([]view{is}) != lines([]view{was}) {
					t.Fatalf("Want made %+v of %+v", is, was)
				}
			}
			wishFails(t, r, 3, in(0, 2), api.ErrDone)
			wishFails(t, r, 3, in(0, 1), api.ErrUnknown)
			wishFails(t, r, 3, in(0, 3), api.ErrUnknown)
			wishFails(t, r, 3, in(1, 4), api.ErrUnknown)
		}
	}
	r := replica.New(0, 3) // what is led here may be wanted too
	proposes(t, r, p, in(0, 1))
	r.Take()
	if e := r.Want(in(0, 1)); e != api.OK {
		t.Fatalf("Want = %d", e)
	}
	takes(t, r, nil, all(3, 0, want(in(0, 1))))
	leadIs(t, r, in(0, 1), 1, bal(0, 0), 0)
}
