package replica_test

import (
	"strings"
	"testing"

	"moot/api"
	"moot/msg"
	"moot/replica"
)

// eachKind is a valid message of each kind but Want and Commit in the ballot b, which is above round 0.
func eachKind(n int, x api.Inst, b api.Ballot) []api.Msg {
	d := filled(n, 1)
	return []api.Msg{
		preAccept(x, b, p, 3, d), preAcceptOK(x, b, 3, d), accept(x, b, p, 3, d), acceptOK(x, b), commit(x, p, 3, d),
		prepare(x, b), none(x, b), same(x, b, p, 3, d), acc(x, b, first(x), p, 3, d), nack(x, b, bal(b.Round+1, 0)), want(x),
	}
}

// questions are the kinds that only who leads a ballot sends.
func questions(x api.Inst, b api.Ballot, c api.Cmd, seq int, d []int) []api.Msg {
	l := []api.Msg{preAccept(x, b, c, seq, d), accept(x, b, c, seq, d)}
	if b.Round > 0 {
		l = append(l, prepare(x, b))
	}
	return l
}

func TestP13_9From(t *testing.T) {
	for _, n := range sizes() {
		for id := range n {
			r := fresh(t, id, n, committed(in(0, 2), p, 3, filled(n, 0)))
			for _, from := range append(noReplicas(n), id) {
				for _, m := range append(eachKind(n, in(0, 1), bal(1, id)), want(in(0, 2)), commit(in(0, 2), q, 3, filled(n, 0))) {
					refuses(t, r, from, m, api.ErrFrom)
				}
				refuses(t, r, from, api.Msg{}, api.ErrFrom) // ahead of the message's own faults
				refuses(t, r, from, prepare(in(0, 1), bal(0, 0)), api.ErrFrom)
				refuses(t, r, from, prepare(in(0, 1), bal(1, (id+1)%n)), api.ErrFrom)
			}
			for _, from := range others(n, id) {
				receives(t, r, from, want(in(0, 2)))
				takes(t, r, nil, outs(to(from, commit(in(0, 2), p, 3, filled(n, 0)))))
			}
		}
	}
}

// faulty are messages that may not be among 3, each with the error.
func faulty() map[api.Errno][]api.Msg {
	x, b, zero := in(0, 1), bal(1, 0), vec(0, 0, 0)
	return map[api.Errno][]api.Msg{
		api.ErrMsgKind: {{}, {Kind: -1}, {Kind: 10}, {Kind: 257, Inst: x, Bal: b}, {Kind: 1<<32 + 6, Inst: x, Bal: b}},
		api.ErrMsgExtra: {
			{Kind: 6, Inst: x, Bal: b, Seq: 1}, {Kind: 6, Inst: x, Bal: b, Deps: zero}, {Kind: 6, Inst: x, Bal: b, Cmd: p}, {Kind: 6, Inst: x, Bal: b, VBal: bal(0, 1)},
			{Kind: 9, Inst: x, Bal: b}, {Kind: 5, Inst: x, Bal: b, Cmd: p, Seq: 1, Deps: zero}, {Kind: 4, Inst: x, Bal: b, State: 1}, {Kind: 7, Inst: x, Bal: b, Same: true},
			{Kind: 2, Inst: x, Bal: b, Cmd: p, Seq: 1, Deps: zero}, {Kind: 8, Inst: x, Bal: b, VBal: bal(2, 0), Seq: 1}, {Kind: 1, Inst: x, Bal: b, State: 1, Cmd: p, Seq: 1, Deps: zero},
			{Kind: 3, Inst: x, Bal: b, Same: true, Cmd: p, Seq: 1, Deps: zero},
		},
		api.ErrMsgInst: {prepare(in(-1, 1), b), prepare(in(3, 1), b), acceptOK(in(0, 0), b), want(in(0, topNum+1)), commit(in(3, 1), p, 1, zero), want(in(0, -1)), nack(in(7, 1), b, bal(2, 0))},
		api.ErrMsgBallot: {
			prepare(x, bal(0, 0)), prepare(x, bal(1, 3)), prepare(x, bal(topRound+1, 0)), prepare(x, bal(-1, 0)), none(x, bal(0, 0)), acceptOK(x, bal(0, 1)),
			preAccept(in(1, 1), bal(0, 0), p, 1, zero), accept(x, bal(1, -1), p, 1, zero), preAcceptOK(x, bal(0, 2), 1, zero), nack(x, bal(0, 1), bal(1, 1)),
		},
		api.ErrMsgVote: {
			nack(x, b, b), nack(x, b, bal(0, 0)), nack(x, bal(1, 1), bal(1, 0)), nack(x, b, bal(2, 3)), nack(x, b, bal(topRound+1, 0)),
			pre(x, b, b, p, 1, zero), acc(x, b, bal(1, 1), p, 1, zero), acc(x, bal(2, 0), bal(0, 1), p, 1, zero),
			{Kind: 7, Inst: x, Bal: b, State: 3, Cmd: p, Seq: 1, Deps: zero}, {Kind: 7, Inst: x, Bal: b, State: 2, Same: true, Cmd: p, Seq: 1, Deps: zero},
			{Kind: 7, Inst: x, Bal: bal(2, 0), State: 1, Same: true, VBal: bal(1, 1), Cmd: p, Seq: 1, Deps: zero},
		},
		api.ErrKind:    {preAccept(x, b, api.Cmd{Kind: 9, Key: "k"}, 1, zero)},
		api.ErrField:   {commit(x, api.Cmd{Kind: 1, Key: "k", Val: "v"}, 1, zero), accept(x, b, api.Cmd{Key: "k"}, 0, zero)},
		api.ErrClient:  {accept(x, b, api.Cmd{Kind: 1, Client: 65536, Key: "k"}, 1, zero)},
		api.ErrReq:     {accept(x, b, api.Cmd{Kind: 1, Req: -1, Key: "k"}, 1, zero)},
		api.ErrKey:     {preAccept(x, b, put("", ""), 1, zero)},
		api.ErrKey2:    {commit(x, pair(api.Move, "k", "k"), 1, zero)},
		api.ErrVal:     {commit(x, put("k", strings.Repeat("v", 65537)), 1, zero)},
		api.ErrOld:     {pre(x, b, bal(0, 0), api.Cmd{Kind: api.Cas, Key: "k", Old: strings.Repeat("v", 65537)}, 1, zero)},
		api.ErrMsgNoop: {preAccept(x, b, api.Cmd{}, 0, zero), pre(x, b, bal(0, 0), api.Cmd{}, 0, zero)},
		api.ErrMsgSeq:  {commit(x, p, 0, zero), commit(x, p, topSeq+1, zero), commit(x, api.Cmd{}, 1, zero), preAcceptOK(x, b, 0, zero), accept(x, b, p, -1, zero), preAccept(x, b, p, 0, zero)},
		api.ErrMsgDeps: {
			commit(x, p, 1, vec(0, 0)), commit(x, p, 1, vec(0, 0, 0, 0)), commit(x, p, 1, nil), commit(x, p, 1, vec(0, -1, 0)), commit(x, p, 1, vec(0, 0, topNum+1)),
			commit(x, api.Cmd{}, 0, vec(0, 1, 0)), preAcceptOK(x, b, 1, vec(0, 0)), accept(x, b, p, 1, vec(0, 0, 0, 0, 0)), preAccept(x, b, p, 1, nil), accept(x, b, api.Cmd{}, 0, nil),
		},
	}
}

// What may not be is refused with the fault's error, whoever sends it and whatever the slot has.
func TestP13_9Faults(t *testing.T) {
	x, zero := in(0, 1), vec(0, 0, 0)
	for e, l := range faulty() {
		for _, m := range l {
			if got := msg.Check(2, 3, m); got != e {
				t.Fatalf("Check(2, 3, %+v) = %d, want %d", m, got, e)
			}
			leading := fresh(t, 1, 3, sameVoted(x, p, 1, zero))
			recovers(t, leading, x)
			leading.Take()
			for _, r := range []*replica.Replica{replica.New(1, 3), fresh(t, 1, 3, stored()...), fresh(t, 1, 3, committed(x, p, 1, zero)), leading} {
				refuses(t, r, 0, m, e)
				refuses(t, r, 2, m, e) // ahead of ErrWho
			}
		}
	}
}

// The bounds are those of n.
func TestP13_9FaultsOfSizes(t *testing.T) {
	for _, n := range sizes() {
		r, x, b := replica.New(n-1, n), in(0, 1), bal(1, 0)
		refuses(t, r, 0, want(in(n, 1)), api.ErrMsgInst)
		refuses(t, r, 0, acceptOK(x, bal(1, n)), api.ErrMsgBallot)
		refuses(t, r, 0, nack(x, b, bal(2, n)), api.ErrMsgVote)
		for _, width := range []int{0, 1, 3, 5, 7} {
			if width != n {
				refuses(t, r, 0, commit(x, p, 1, filled(width, 0)), api.ErrMsgDeps)
				refuses(t, r, 0, preAccept(x, b, p, 1, filled(width, 0)), api.ErrMsgDeps)
			}
		}
		ignores(t, r, 0, want(in(n-1, topNum)))
		receives(t, r, 0, commit(in(n-1, topNum), pair(api.Move, "a", "b"), topSeq, filled(n, topNum)))
		takes(t, r, records(committed(in(n-1, topNum), pair(api.Move, "a", "b"), topSeq, filled(n, topNum))), nil)
	}
}

// Nobody asks in another's ballot, whatever the slot has.
func TestP13_9Who(t *testing.T) {
	for _, n := range sizes() {
		x, d := in(0, 1), filled(n, 0)
		for _, l := range [][]api.Record{nil, records(promise(x, bal(2, 1))), records(promise(x, bal(3, n-1))), records(committed(x, p, 1, d)), records(accepted(x, bal(2, 0), p, 1, d))} {
			for _, from := range others(n, 1) {
				for who := range n {
					for _, m := range questions(x, bal(2, who), p, 1, d) {
						if who == from {
							receives(t, fresh(t, 1, n, l...), from, m)
						} else {
							refuses(t, fresh(t, 1, n, l...), from, m, api.ErrWho)
						}
					}
				}
				if from != 0 {
					refuses(t, fresh(t, 1, n, l...), from, preAccept(x, bal(0, 0), p, 1, d), api.ErrWho)
					refuses(t, fresh(t, 1, n, l...), from, accept(x, bal(0, 0), p, 1, d), api.ErrWho)
				}
			}
		}
		// The own row's first ballot is nobody else's.
		refuses(t, replica.New(1, n), 0, preAccept(in(1, 1), bal(0, 1), p, 1, d), api.ErrWho)
		refuses(t, replica.New(1, n), 2, accept(in(1, 1), bal(0, 1), p, 1, d), api.ErrWho)
		// All others may be of any ballot.
		for _, m := range eachKind(n, x, bal(2, 1)) {
			if m.Kind != 1 && m.Kind != 3 && m.Kind != 6 {
				receives(t, replica.New(1, n), 2, m)
			}
		}
	}
}

// A committed slot is told to who asks, at any ballot, and to nobody else; nothing is written.
func TestP13_9AskedOfACommit(t *testing.T) {
	x := in(0, 1)
	for _, n := range sizes() {
		d := filled(n, 2)
		for _, is := range []api.Record{committed(x, p, 4, d), committed(x, api.Cmd{}, 0, filled(n, 0))} {
			for _, ahead := range [][]api.Record{nil, records(promise(x, bal(5, 2))), records(accepted(x, bal(5, 0), p, 4, d))} {
				r := fresh(t, 1, n, append(ahead, is)...)
				was := viewOf(r)
				for _, from := range others(n, 1) {
					for _, b := range []api.Ballot{bal(0, 0), bal(1, from), bal(5, from), bal(topRound, from)} {
						if b.Who != from {
							continue
						}
						for _, m := range questions(x, b, q, 9, filled(n, 3)) {
							receives(t, r, from, m)
							takes(t, r, nil, outs(to(from, commit(x, is.Cmd, is.Seq, is.Deps))))
						}
					}
				}
				if now := viewOf(r); lines([]view{now}) != lines([]view{was}) {
					t.Fatalf("%+v became %+v", was, now)
				}
			}
		}
	}
}

// Below the slot's ballot there is a Nack with it, and nothing else, whatever the slot has.
func TestP13_9BelowTheBallot(t *testing.T) {
	x := in(0, 1)
	for _, n := range sizes() {
		d := filled(n, 2)
		for _, is := range []api.Ballot{bal(1, 0), bal(1, 1), bal(2, 0), bal(2, n-1), bal(topRound, 1)} {
			for _, l := range [][]api.Record{
				records(promise(x, is)), records(voted(x, is, p, 4, d)), records(accepted(x, is, p, 4, d)),
				records(sameVoted(x, p, 4, d), promise(x, is)), records(accepted(x, bal(0, 0), p, 4, d), promise(x, is)),
			} {
				r := fresh(t, 1, n, l...)
				for _, from := range others(n, 1) {
					for _, b := range []api.Ballot{bal(0, 0), bal(1, from), bal(2, from), bal(is.Round, from), bal(is.Round-1, from)} {
						if rank(b) >= rank(is) || b.Who != from || b.Round == 0 && from != 0 {
							continue
						}
						for _, m := range questions(x, b, q, 9, filled(n, 3)) {
							was := viewOf(r)
							receives(t, r, from, m)
							takes(t, r, nil, outs(to(from, nack(x, b, is))))
							if now := viewOf(r); lines([]view{now}) != lines([]view{was}) {
								t.Fatalf("%+v became %+v", was, now)
							}
						}
					}
				}
			}
		}
	}
}

// votes asks for a PreAccept to be answered with such a vote.
func votes(t *testing.T, r *replica.Replica, from int, m api.Msg, rec api.Record) {
	t.Helper()
	receives(t, r, from, m)
	takes(t, r, records(rec), outs(to(from, preAcceptOK(m.Inst, m.Bal, rec.Seq, rec.Deps))))
	if s, ok := slotOf(r, m.Inst); !ok || s.State != 1 || s.Bal != m.Bal || s.VBal != m.Bal || s.Same != rec.Same || s.Cmd != m.Cmd || s.Seq != rec.Seq {
		t.Fatalf("the slot is %+v behind %+v", s, rec)
	}
	noLead(t, r, m.Inst)
}

// The attributes are the union of what the leader has and what is known here.
func TestP13_9PreAccept(t *testing.T) {
	x, b := in(0, 1), bal(0, 0)
	known := records(committed(in(1, 4), p, 6, vec(0, 0, 0)), voted(in(2, 3), bal(0, 2), q, 2, vec(0, 0, 0)), promise(in(0, 9), bal(1, 0))) // 7, [0 4 3]
	for _, c := range []struct {
		l    []api.Record
		m    api.Msg
		same bool
		seq  int
		deps []int
	}{
		{nil, preAccept(x, b, p, 1, vec(0, 0, 0)), true, 1, vec(0, 0, 0)},
		{nil, preAccept(x, b, p, 9, vec(5, 6, 7)), true, 9, vec(5, 6, 7)},
		{known, preAccept(x, b, get("other"), 1, vec(0, 0, 0)), true, 1, vec(0, 0, 0)},
		{known, preAccept(x, b, p, 7, vec(0, 4, 3)), true, 7, vec(0, 4, 3)},
		{known, preAccept(x, b, p, 8, vec(1, 5, 4)), true, 8, vec(1, 5, 4)},
		{known, preAccept(x, b, p, 6, vec(0, 4, 3)), false, 7, vec(0, 4, 3)},
		{known, preAccept(x, b, p, 1, vec(9, 9, 9)), false, 7, vec(9, 9, 9)},
		{known, preAccept(x, b, p, 7, vec(0, 3, 3)), false, 7, vec(0, 4, 3)},
		{known, preAccept(x, b, p, 7, vec(0, 4, 2)), false, 7, vec(0, 4, 3)},
		{known, preAccept(x, b, p, 9, vec(3, 5, 0)), false, 9, vec(3, 5, 3)},
		{known, preAccept(x, b, p, 1, vec(0, 0, 0)), false, 7, vec(0, 4, 3)},
		{known, preAccept(x, b, p, topSeq, vec(topNum, topNum, topNum)), true, topSeq, vec(topNum, topNum, topNum)},
		{records(committed(in(1, topNum), p, topSeq, vec(0, 0, 0))), preAccept(x, b, p, 1, vec(0, 0, 0)), false, topSeq, vec(0, topNum, 0)},
		{records(committed(in(1, topNum), p, topSeq, vec(0, 0, 0))), preAccept(x, b, p, topSeq, vec(0, topNum, 0)), true, topSeq, vec(0, topNum, 0)},
	} {
		for _, up := range []bool{false, true} { // above round 0 none is the same
			m, rec := c.m, voted(x, c.m.Bal, c.m.Cmd, c.seq, c.deps)
			if up {
				m.Bal, rec.Bal = bal(1, 0), bal(1, 0)
			}
			rec.Same = c.same && !up
			r := fresh(t, 1, 3, c.l...)
			votes(t, r, 0, m, rec)
			receives(t, r, 0, m) // and again, without a record
			takes(t, r, nil, outs(to(0, preAcceptOK(x, m.Bal, c.seq, c.deps))))
		}
	}
}

// A vote is told again as it stands, whatever has come to be known, and whatever the message has now.
func TestP13_9PreAcceptAgain(t *testing.T) {
	x, d := in(0, 1), vec(0, 2, 0)
	for _, b := range []api.Ballot{bal(0, 0), bal(3, 0)} {
		for _, m := range []api.Msg{preAccept(x, b, p, 1, vec(0, 0, 0)), preAccept(x, b, p, 2, d), preAccept(x, b, q, 77, vec(9, 9, 9))} {
			r := fresh(t, 1, 3, voted(x, b, p, 2, d), committed(in(2, 1), p, 9, vec(0, 0, 0)))
			for range 3 {
				receives(t, r, 0, m)
				takes(t, r, nil, outs(to(0, preAcceptOK(x, b, 2, d))))
			}
			ignores(t, fresh(t, 1, 3, accepted(x, b, p, 2, d)), 0, m)
			ignores(t, fresh(t, 1, 3, accepted(x, b, api.Cmd{}, 0, vec(0, 0, 0))), 0, m)
			ignores(t, fresh(t, 1, 3, voted(x, b, p, 2, d), accepted(x, b, q, 2, d)), 0, m)
		}
	}
}

// A vote at a lower ballot, or a promise of just this one, is no vote at this one.
func TestP13_9PreAcceptAnew(t *testing.T) {
	x, zero, b := in(0, 1), vec(0, 0, 0), bal(2, 2)
	for _, l := range [][]api.Record{
		records(promise(x, b)), records(promise(x, bal(2, 1))), records(sameVoted(x, p, 4, zero)), records(sameVoted(x, p, 4, zero), promise(x, b)),
		records(voted(x, bal(2, 1), p, 4, zero)), records(accepted(x, bal(1, 2), p, 4, zero)), records(accepted(x, bal(1, 2), p, 4, zero), promise(x, b)),
		records(accepted(x, bal(0, 0), api.Cmd{}, 0, zero)),
	} {
		votes(t, fresh(t, 1, 3, l...), 2, preAccept(x, b, q, 1, zero), voted(x, b, q, 1, zero)) // x itself doesn't count
	}
	// At round 0 too, where nothing has been heard of but that it is waited for.
	votes(t, fresh(t, 1, 3, committed(in(2, 1), p, 4, vec(3, 0, 0))), 0, preAccept(x, bal(0, 0), get("z"), 1, zero), sameVoted(x, get("z"), 1, zero))
}

// takesUp asks for an Accept to be written and answered.
func takesUp(t *testing.T, r *replica.Replica, from int, m api.Msg) {
	t.Helper()
	receives(t, r, from, m)
	takes(t, r, records(accepted(m.Inst, m.Bal, m.Cmd, m.Seq, m.Deps)), outs(to(from, acceptOK(m.Inst, m.Bal))))
	if s, ok := slotOf(r, m.Inst); !ok || s.State != 2 || s.Bal != m.Bal || s.VBal != m.Bal || s.Same || s.Cmd != m.Cmd || s.Seq != m.Seq {
		t.Fatalf("the slot is %+v behind %+v", s, m)
	}
	for range 2 {
		receives(t, r, from, m)
		takes(t, r, nil, outs(to(from, acceptOK(m.Inst, m.Bal))))
	}
}

func TestP13_9Accept(t *testing.T) {
	x := in(0, 1)
	for _, n := range sizes() {
		zero, d := filled(n, 0), filled(n, topNum)
		for _, b := range []api.Ballot{bal(0, 0), bal(1, 0), bal(2, 2), bal(topRound, n-1)} {
			for _, m := range []api.Msg{accept(x, b, p, 1, zero), accept(x, b, q, topSeq, d), accept(x, b, api.Cmd{}, 0, zero)} {
				takesUp(t, replica.New(1, n), b.Who, m)
				takesUp(t, fresh(t, 1, n, committed(in(2, 1), p, 44, d)), b.Who, m) // what is known here doesn't count
				takesUp(t, fresh(t, 1, n, voted(x, b, p, 4, zero)), b.Who, m)
				takesUp(t, fresh(t, 1, n, voted(x, bal(0, 0), p, 4, zero)), b.Who, m)
				if b.Round > 0 {
					takesUp(t, fresh(t, 1, n, promise(x, b)), b.Who, m)
					takesUp(t, fresh(t, 1, n, accepted(x, bal(0, 0), p, 4, zero)), b.Who, m)
					takesUp(t, fresh(t, 1, n, accepted(x, bal(0, 0), p, 4, zero), promise(x, b)), b.Who, m)
				}
			}
		}
	}
	// What was accepted in a ballot stands in it: another one is answered, but not written.
	r := fresh(t, 1, 3, accepted(x, bal(1, 0), p, 4, vec(0, 0, 0)))
	receives(t, r, 0, accept(x, bal(1, 0), q, 5, vec(1, 1, 1)))
	takes(t, r, nil, outs(to(0, acceptOK(x, bal(1, 0)))))
	slotsAre(t, r, api.Slot{Inst: x, Bal: bal(1, 0), VBal: bal(1, 0), State: 2, Cmd: p, Seq: 4, Deps: vec(0, 0, 0)})
}

// promises asks for a Prepare at b to be answered with the slot's vote; at the slot's own ballot nothing is written.
func promises(t *testing.T, r *replica.Replica, from int, b api.Ballot, vote api.Msg, writes bool) {
	t.Helper()
	x := vote.Inst
	was, _ := slotOf(r, x)
	vote.Bal = b
	for range 2 {
		receives(t, r, from, prepare(x, b))
		if writes {
			takes(t, r, records(promise(x, b)), outs(to(from, vote)))
		} else {
			takes(t, r, nil, outs(to(from, vote)))
		}
		writes = false
	}
	was.Inst, was.Bal = x, b
	if is, ok := slotOf(r, x); !ok || lines(bareSlots([]api.Slot{is})) != lines(bareSlots([]api.Slot{was})) {
		t.Fatalf("the slot is %+v, want %+v", is, was)
	}
}

func TestP13_9Prepare(t *testing.T) {
	x, b := in(0, 1), bal(0, 0)
	for _, n := range sizes() {
		d := filled(n, 3)
		for _, c := range []struct {
			l    []api.Record
			vote api.Msg
		}{
			{nil, none(x, b)},
			{records(committed(in(2, 1), p, 4, d)), none(x, b)},
			{records(promise(x, bal(1, 0))), none(x, b)},
			{records(sameVoted(x, p, 4, d)), same(x, b, p, 4, d)},
			{records(voted(x, b, p, 4, d)), pre(x, b, b, p, 4, d)},
			{records(voted(x, bal(1, 0), p, topSeq, d)), pre(x, b, bal(1, 0), p, topSeq, d)},
			{records(accepted(x, b, q, 4, d)), acc(x, b, b, q, 4, d)},
			{records(accepted(x, bal(1, 0), q, 4, d)), acc(x, b, bal(1, 0), q, 4, d)},
			{records(accepted(x, b, api.Cmd{}, 0, filled(n, 0))), acc(x, b, b, api.Cmd{}, 0, filled(n, 0))},
		} {
			for _, above := range []api.Ballot{bal(1, 2), bal(2, 0), bal(topRound, n-1)} {
				promises(t, fresh(t, 1, n, c.l...), above.Who, above, c.vote, true)
				promises(t, fresh(t, 1, n, append(c.l, promise(x, above))...), above.Who, above, c.vote, false)
			}
		}
		// Who has voted in the ballot itself says nothing.
		ignores(t, fresh(t, 1, n, voted(x, bal(2, 0), p, 4, d)), 0, prepare(x, bal(2, 0)))
		ignores(t, fresh(t, 1, n, accepted(x, bal(2, 0), p, 4, d)), 0, prepare(x, bal(2, 0)))
		ignores(t, fresh(t, 1, n, promise(x, bal(2, 0)), accepted(x, bal(2, 0), api.Cmd{}, 0, filled(n, 0))), 0, prepare(x, bal(2, 0)))
	}
}

// A slot at the last ballot of all still answers.
func TestP13_9TheLastBallot(t *testing.T) {
	x, last, zero := in(0, 1), bal(topRound, 2), vec(0, 0, 0)
	for _, l := range [][]api.Record{records(sameVoted(x, p, 1, zero)), records(sameVoted(x, p, 1, zero), promise(x, last))} {
		r := fresh(t, 1, 3, l...)
		promises(t, r, 2, last, same(x, last, p, 1, zero), len(l) == 1)
		takesUp(t, r, 2, accept(x, last, p, 1, zero))
		receives(t, r, 0, accept(x, bal(topRound, 0), p, 1, zero))
		takes(t, r, nil, outs(to(0, nack(x, bal(topRound, 0), last))))
	}
}

func TestP13_9Commit(t *testing.T) {
	x := in(0, 1)
	for _, n := range sizes() {
		zero, d := filled(n, 0), with(filled(n, 2), n-1, 3)
		for _, is := range []api.Record{committed(x, p, 4, d), committed(x, q, topSeq, filled(n, topNum)), committed(x, api.Cmd{}, 0, zero)} {
			m := commit(x, is.Cmd, is.Seq, is.Deps)
			for _, l := range [][]api.Record{
				nil, records(promise(x, bal(topRound, n-1))), records(sameVoted(x, p, 4, d)), records(voted(x, bal(2, 0), q, 9, zero)),
				records(accepted(x, bal(0, 0), p, 4, d)), records(accepted(x, bal(2, 2), api.Cmd{}, 0, zero)), records(committed(in(2, 2), p, 9, zero)),
			} {
				r := fresh(t, 1, n, l...)
				receives(t, r, 2, m)
				takes(t, r, records(is), nil)
				s, _ := slotOf(r, x)
				if want := (api.Slot{Inst: x, Bal: bal(0, 0), State: 3, Cmd: is.Cmd, Seq: is.Seq, Deps: is.Deps}); lines([]api.Slot{s}) != lines([]api.Slot{want}) {
					t.Fatalf("the slot is %+v, want %+v", s, want)
				}
				for _, from := range others(n, 1) { // alike
					ignores(t, r, from, m)
				}
			}
		}
	}
}

// clashes are commits like this one but for one thing.
func clashes(m api.Msg) []api.Msg {
	var out []api.Msg
	for _, c := range []api.Cmd{q, get("k"), {Kind: 2, Client: 1, Key: "k", Val: "1"}, {Kind: 2, Req: 1, Key: "k", Val: "1"}, put("l", "1"), put("k", ""), {Kind: api.Cas, Key: "k", Val: "1"}} {
		w := m
		w.Cmd = c
		out = append(out, w)
	}
	for _, seq := range []int{m.Seq - 1, m.Seq + 1, topSeq} {
		w := m
		w.Seq = seq
		out = append(out, w)
	}
	for i, x := range m.Deps {
		for _, y := range []int{x - 1, x + 1, topNum} {
			w := m
			w.Deps = with(m.Deps, i, y)
			out = append(out, w)
		}
	}
	return append(out, commit(m.Inst, api.Cmd{}, 0, filled(len(m.Deps), 0)))
}

func TestP13_9CommitClashes(t *testing.T) {
	x := in(0, 1)
	for _, n := range sizes() {
		d := filled(n, 4)
		r := fresh(t, 1, n, committed(x, p, 4, d))
		receives(t, r, 2, commit(in(2, 2), api.Cmd{}, 0, filled(n, 0)))
		r.Take()
		for _, m := range clashes(commit(x, p, 4, d)) {
			refuses(t, r, 0, m, api.ErrClash)
			refuses(t, r, n-1, m, api.ErrClash)
		}
		refuses(t, r, 0, commit(in(2, 2), p, 4, d), api.ErrClash)
		ignores(t, r, 0, commit(x, p, 4, d))
	}
}

func TestP13_9Want(t *testing.T) {
	x := in(0, 1)
	for _, n := range sizes() {
		zero := filled(n, 0)
		for _, l := range [][]api.Record{nil, records(promise(x, bal(3, 2))), records(sameVoted(x, p, 4, zero)), records(accepted(x, bal(3, 2), p, 4, zero)), records(committed(in(2, 1), p, 4, with(zero, 0, 3)))} {
			for _, from := range others(n, 1) {
				ignores(t, fresh(t, 1, n, l...), from, want(x))
			}
			r := fresh(t, 1, n, append(l, committed(x, q, 7, with(zero, 2, 9)))...)
			for _, from := range others(n, 1) {
				receives(t, r, from, want(x))
				takes(t, r, nil, outs(to(from, commit(x, q, 7, with(zero, 2, 9)))))
			}
		}
		r := replica.New(1, n) // one that is led here
		proposes(t, r, p, in(1, 1))
		r.Take()
		ignores(t, r, 0, want(in(1, 1)))
	}
}
