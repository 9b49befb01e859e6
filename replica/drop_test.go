package replica_test

import (
	"testing"

	"moot/api"
	"moot/replica"
)

// led is replica 1 among n, that leads x in a phase; nothing is left to give out.
type led struct {
	r     *replica.Replica
	n     int
	x     api.Inst
	phase int
	b     api.Ballot
}

// eachLed makes one of each phase, those of the phases 1 and 2 at round 0 and above it.
func eachLed(t *testing.T, n int) []led {
	t.Helper()
	own, other := in(1, 1), in(0, 1)
	return []led{
		{ledPreAccept(t, n, own), n, own, 1, bal(0, 1)}, {ledAgain(t, n, other), n, other, 1, bal(1, 1)},
		{ledAccept(t, n, own), n, own, 2, bal(0, 1)}, {ledNoop(t, n, other), n, other, 2, bal(1, 1)},
		{ledPrepare(t, n, own), n, own, 3, bal(1, 1)}, {ledPrepare(t, n, other), n, other, 3, bal(1, 1)},
	}
}

func ledPreAccept(t *testing.T, n int, x api.Inst) *replica.Replica {
	t.Helper()
	r := replica.New(1, n)
	proposes(t, r, p, x)
	return drained(r)
}

// ledAgain has recovered a vote that isn't the same.
func ledAgain(t *testing.T, n int, x api.Inst) *replica.Replica {
	t.Helper()
	return heardNothing(t, fresh(t, 1, n, voted(x, first(x), p, 9, filled(n, 4))), n, x)
}

func ledAccept(t *testing.T, n int, x api.Inst) *replica.Replica {
	t.Helper()
	r := ledPreAccept(t, n, x)
	for _, from := range others(n, 1)[:n/2] {
		receives(t, r, from, preAcceptOK(x, bal(0, 1), 2+from, filled(n, 0)))
	}
	if phase, _, _ := r.Lead(x); phase == 1 {
		timesOut(t, r, x)
	}
	return drained(r)
}

// ledNoop has recovered what nobody has voted for, but something waits for.
func ledNoop(t *testing.T, n int, x api.Inst) *replica.Replica {
	t.Helper()
	return heardNothing(t, fresh(t, 1, n, committed(in(2, 9), get("z"), 1, with(filled(n, 0), x.Row, x.Num))), n, x)
}

// ledPrepare has a vote in the row's first ballot.
func ledPrepare(t *testing.T, n int, x api.Inst) *replica.Replica {
	t.Helper()
	r := fresh(t, 1, n, sameVoted(x, p, 1, filled(n, 0)))
	recovers(t, r, x)
	return drained(r)
}

// heardNothing recovers x, and hears from F others that they have no vote.
func heardNothing(t *testing.T, r *replica.Replica, n int, x api.Inst) *replica.Replica {
	t.Helper()
	recovers(t, r, x)
	_, b, _ := r.Lead(x)
	for _, from := range others(n, 1)[:n/2] {
		receives(t, r, from, none(x, b))
	}
	return drained(r)
}

func TestP13_3Leads(t *testing.T) {
	for _, n := range sizes() {
		for _, l := range eachLed(t, n) {
			leadIs(t, l.r, l.x, l.phase, l.b, 0)
			if s, ok := slotOf(l.r, l.x); !ok || s.Bal != l.b {
				t.Errorf("the slot is %+v under %+v", s, l)
			}
		}
	}
}

// deed is something that a replica is told or asked, and who tells it.
type deed struct {
	from int
	m    api.Msg
}

// dropping takes the slot of a lead to another ballot, or commits it.
func dropping(l led) []deed {
	zero, up := filled(l.n, 0), l.b.Round+1
	deeds := []deed{
		{0, commit(l.x, p, 1, zero)}, {2, commit(l.x, q, 9, filled(l.n, 3))}, {2, commit(l.x, api.Cmd{}, 0, zero)},
		{0, nack(l.x, l.b, bal(up, 0))}, {0, nack(l.x, l.b, bal(up, 1))}, {2, nack(l.x, l.b, bal(up, l.n-1))}, {2, nack(l.x, l.b, bal(topRound, 0))},
	}
	for _, b := range []api.Ballot{bal(up, 0), bal(up, 2), bal(topRound, l.n-1), bal(l.b.Round, 2)} {
		if b.Round > 0 {
			deeds = append(deeds, deed{b.Who, preAccept(l.x, b, p, 1, zero)}, deed{b.Who, accept(l.x, b, q, 1, zero)}, deed{b.Who, prepare(l.x, b)})
		}
	}
	if l.b.Round > 0 {
		deeds = append(deeds, deed{0, nack(l.x, l.b, bal(l.b.Round, 2))})
	}
	return deeds
}

// A lead is gone with all that is told to it when its slot goes to another ballot, or is committed.
func TestP13_3Dropped(t *testing.T) {
	for _, n := range sizes() {
		for i := range eachLed(t, n) {
			for j := range dropping(eachLed(t, n)[i]) {
				l := eachLed(t, n)[i]
				d := dropping(l)[j]
				receives(t, l.r, d.from, d.m)
				noLead(t, l.r, l.x)
				if rs, _ := l.r.Take(); len(rs) != 1 || rs[0].Inst != l.x {
					t.Fatalf("%+v made %+v of %+v", d, rs, l)
				}
				for _, from := range others(n, 1) {
					ignores(t, l.r, from, replies(l)[l.phase-1])
					ignores(t, l.r, from, nack(l.x, l.b, bal(topRound, n-1)))
				}
				if d.m.Kind != api.MsgCommit {
					wishFails(t, l.r, 2, l.x, api.ErrLead)
				}
			}
		}
	}
}

// replies are one of each phase in the lead's ballot; of a PrepareOK in round 0, which is none, there is one of the next.
func replies(l led) []api.Msg {
	b := l.b
	if b.Round == 0 {
		b.Round = 1
	}
	return []api.Msg{preAcceptOK(l.x, l.b, 77, filled(l.n, 7)), acceptOK(l.x, l.b), none(l.x, b)}
}

// keeping leaves the lead where it is.
func keeping(l led) []deed {
	y, zero := in(2, 1), filled(l.n, 0)
	deeds := []deed{
		{2, preAccept(y, bal(0, 2), p, 1, zero)}, {2, accept(y, bal(0, 2), p, 1, zero)}, {0, prepare(y, bal(9, 0))}, {0, commit(y, p, 8, zero)}, {0, nack(in(l.x.Row, 2), l.b, bal(9, 2))},
		{0, want(l.x)}, {0, nack(l.x, bal(l.b.Round+1, 1), bal(topRound, 1))}, {0, nack(l.x, bal(l.b.Round+1, 0), bal(topRound, 1))},
	}
	if l.b.Round > 0 {
		low := bal(l.b.Round, 0)
		deeds = append(deeds, deed{0, preAccept(l.x, low, p, 1, zero)}, deed{0, accept(l.x, low, p, 1, zero)}, deed{0, prepare(l.x, low)}, deed{0, nack(l.x, low, bal(9, 0))}, deed{0, nack(l.x, first(l.x), bal(9, 0))})
	}
	return deeds
}

// stays asks for the lead to be there as it was, and to go on hearing.
func stays(t *testing.T, l led) {
	t.Helper()
	leadIs(t, l.r, l.x, l.phase, l.b, 0)
	l.r.Take()
	receives(t, l.r, l.n-1, replies(l)[l.phase-1])
	phase, _, count := l.r.Lead(l.x)
	counted, wentOn := phase == l.phase && count == 1, phase != l.phase
	if !counted && (!wentOn || l.n > 3) { // among 3 one reply may be enough
		t.Fatalf("behind a reply there are phase %d and %d replies of %+v", phase, count, l)
	}
}

func TestP13_3Kept(t *testing.T) {
	for _, n := range sizes() {
		for i := range eachLed(t, n) {
			for j := range keeping(eachLed(t, n)[i]) {
				l := eachLed(t, n)[i]
				d := keeping(l)[j]
				receives(t, l.r, d.from, d.m)
				stays(t, l)
			}
			for what, do := range []func(*replica.Replica, api.Inst) api.Errno{(*replica.Replica).Timeout, (*replica.Replica).Want} {
				l := eachLed(t, n)[i]
				if e := do(l.r, l.x); e != api.OK {
					t.Fatalf("wish %d = %d", what, e)
				}
				stays(t, l)
			}
			l := eachLed(t, n)[i]
			if _, e := l.r.Propose(p); e != api.OK {
				t.Fatalf("Propose = %d", e)
			}
			receives(t, l.r, 2, prepare(in(2, 1), bal(1, 2)))
			recovers(t, l.r, in(2, 1))
			stays(t, l)
		}
	}
}

// A Nack writes what it tells: only the ballot of the slot is another one.
func TestP13_9Nack(t *testing.T) {
	for _, n := range sizes() {
		for i := range eachLed(t, n) {
			for _, up := range []int{0, 1, 2, topRound} {
				for who := range n {
					l := eachLed(t, n)[i]
					b := bal(min(l.b.Round+up, topRound), who)
					if rank(b) <= rank(l.b) || b.Round == 0 {
						continue
					}
					want, _ := slotOf(l.r, l.x)
					receives(t, l.r, 2, nack(l.x, l.b, b))
					takes(t, l.r, records(promise(l.x, b)), nil)
					noLead(t, l.r, l.x)
					want.Bal = b
					if s, _ := slotOf(l.r, l.x); lines([]api.Slot{s}) != lines([]api.Slot{want}) {
						t.Fatalf("the slot is %+v, want %+v", s, want)
					}
					ignores(t, l.r, 2, nack(l.x, l.b, b))
					ignores(t, l.r, 0, nack(l.x, l.b, bal(topRound, n-1)))
				}
			}
		}
	}
}

// A Nack without a lead in its ballot is nothing, whatever the slot has.
func TestP13_9NackWithoutALead(t *testing.T) {
	x, zero := in(1, 1), vec(0, 0, 0)
	for _, l := range [][]api.Record{nil, records(promise(x, bal(2, 1))), records(sameVoted(x, p, 1, zero)), records(voted(x, bal(2, 1), p, 1, zero)), records(accepted(x, bal(2, 1), p, 1, zero)), records(committed(x, p, 1, zero))} {
		for _, b := range []api.Ballot{bal(0, 1), bal(1, 1), bal(2, 0), bal(2, 1), bal(2, 2), bal(3, 1)} {
			ignores(t, fresh(t, 1, 3, l...), 0, nack(x, b, bal(4, 0)))
			ignores(t, fresh(t, 1, 3, l...), 2, nack(x, b, bal(topRound, 1)))
		}
	}
}

// A reply counts only for the lead that asked for it: in its instance, its ballot and its phase.
func TestP13_9RepliesOfOthers(t *testing.T) {
	for _, n := range sizes() {
		for i, l := range eachLed(t, n) {
			for phase, m := range replies(l) {
				for _, from := range others(n, 1) {
					if phase+1 != l.phase {
						ignores(t, l.r, from, m)
					}
					for _, b := range []api.Ballot{first(l.x), bal(1, 0), bal(1, 1), bal(1, 2), bal(2, 1), bal(topRound, 1)} {
						w := m
						w.Bal = b
						if b != l.b && (b.Round > 0 || w.Kind != api.MsgPrepareOK) {
							ignores(t, l.r, from, w)
						}
					}
					for _, x := range []api.Inst{in(l.x.Row, 2), in(2, 1), in(1-l.x.Row, 1)} {
						w := m
						w.Inst = x
						if w.Bal.Round > 0 {
							ignores(t, l.r, from, w)
						}
					}
				}
			}
			stays(t, eachLed(t, n)[i])
		}
	}
}

func TestP13_9RepliesWithoutALead(t *testing.T) {
	x, zero := in(1, 1), vec(0, 0, 0)
	for _, l := range [][]api.Record{nil, records(promise(x, bal(2, 1))), records(sameVoted(x, p, 1, zero)), records(voted(x, bal(2, 1), p, 1, zero)), records(accepted(x, bal(2, 1), p, 1, zero)), records(committed(x, p, 1, zero))} {
		for _, b := range []api.Ballot{bal(0, 1), bal(1, 1), bal(2, 1), bal(3, 1)} {
			for _, from := range []int{0, 2} {
				r := fresh(t, 1, 3, l...)
				ignores(t, r, from, preAcceptOK(x, b, 1, zero))
				ignores(t, r, from, acceptOK(x, b))
				if b.Round > 0 {
					ignores(t, r, from, none(x, b))
					ignores(t, r, from, same(x, b, p, 1, zero))
				}
			}
		}
	}
}

// Of each replica only the first reply counts, whatever the next one has.
func TestP13_9RepliesTwice(t *testing.T) {
	for _, n := range []int{5, 7} {
		zero := filled(n, 0)
		for i := range eachLed(t, n) {
			l := eachLed(t, n)[i]
			receives(t, l.r, 2, replies(l)[l.phase-1])
			if i == 0 {
				takesNothing(t, l.r)
			}
			leadIs(t, l.r, l.x, l.phase, l.b, 1)
			l.r.Take()
			for range 3 {
				ignores(t, l.r, 2, replies(l)[l.phase-1])
			}
			switch l.phase {
			case 1:
				ignores(t, l.r, 2, preAcceptOK(l.x, l.b, 1, zero))
				ignores(t, l.r, 2, preAcceptOK(l.x, l.b, 78, filled(n, 8)))
			case 3:
				ignores(t, l.r, 2, acc(l.x, l.b, bal(0, l.x.Row), q, 9, zero))
				ignores(t, l.r, 2, same(l.x, l.b, p, 1, zero))
			}
			leadIs(t, l.r, l.x, l.phase, l.b, 1)
		}
	}
}

// What the second reply of a replica has comes in nowhere.
func TestP13_9TheFirstReplyCounts(t *testing.T) {
	x, zero := in(1, 1), filled(5, 0)
	r := ledPreAccept(t, 5, x)
	receives(t, r, 0, preAcceptOK(x, bal(0, 1), 4, vec(0, 0, 0, 0, 1)))
	ignores(t, r, 0, preAcceptOK(x, bal(0, 1), 9, vec(9, 9, 9, 9, 9)))
	receives(t, r, 4, preAcceptOK(x, bal(0, 1), 2, vec(3, 0, 0, 0, 0)))
	takes(t, r, records(accepted(x, bal(0, 1), p, 4, vec(3, 0, 0, 0, 1))), all(5, 1, accept(x, bal(0, 1), p, 4, vec(3, 0, 0, 0, 1))))

	r = ledPrepare(t, 5, x)
	receives(t, r, 3, acc(x, bal(1, 1), bal(0, 1), q, 5, zero))
	ignores(t, r, 3, none(x, bal(1, 1)))
	receives(t, r, 0, none(x, bal(1, 1)))
	takes(t, r, records(accepted(x, bal(1, 1), q, 5, zero)), all(5, 1, accept(x, bal(1, 1), q, 5, zero)))
}
