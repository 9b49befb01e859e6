package replica_test

import (
	"testing"

	"moot/api"
	"moot/replica"
)

// goesOn asks for a lead to have come to what m tells all: the record, the messages, and the lead of it.
func goesOn(t *testing.T, r *replica.Replica, n int, m api.Msg) {
	t.Helper()
	switch m.Kind {
	case api.MsgCommit:
		takes(t, r, records(committed(m.Inst, m.Cmd, m.Seq, m.Deps)), all(n, 1, m))
		noLead(t, r, m.Inst)
	case api.MsgAccept:
		takes(t, r, records(accepted(m.Inst, m.Bal, m.Cmd, m.Seq, m.Deps)), all(n, 1, m))
		leadIs(t, r, m.Inst, 2, m.Bal, 0)
	case api.MsgPreAccept:
		rec := voted(m.Inst, m.Bal, m.Cmd, m.Seq, m.Deps)
		rec.Same = m.Bal.Round == 0
		takes(t, r, records(rec), all(n, 1, m))
		leadIs(t, r, m.Inst, 1, m.Bal, 0)
	}
}

// odds is a list of below(base) digits for each of base to the power of count rows.
func odds(base, count int) [][]int {
	rows := [][]int{nil}
	for range count {
		var longer [][]int
		for _, row := range rows {
			for digit := range base {
				longer = append(longer, append(append([]int{}, row...), digit))
			}
		}
		rows = longer
	}
	return rows
}

// At round 0, behind every row of replies that have the lead's attributes or others.
func TestP13_10FastWay(t *testing.T) {
	x, b := in(1, 3), bal(0, 1)
	for _, n := range sizes() {
		f, d := n/2, with(filled(n, 0), 2, 8)
		known := records(committed(in(2, 8), q, 6, filled(n, 0)), promise(in(1, 2), bal(1, 0))) // 7, [0 0 8 ..]
		for _, row := range odds(3, 2*f) {
			r := fresh(t, 1, n, known...)
			proposes(t, r, p, x)
			r.Take()
			alike, other, seq, deps := 0, 0, 7, d
			for i, from := range others(n, 1) {
				a := preAcceptOK(x, b, 7, d)
				switch row[i] {
				case 0:
					alike++
				case 1:
					a.Seq = 8 + i
					other++
				case 2:
					a.Deps = with(d, i, 9+i)
					other++
				}
				seq, deps = max(seq, a.Seq), with(deps, i, max(deps[i], a.Deps[i]))
				receives(t, r, from, a)
				if alike == 2*f-1 {
					goesOn(t, r, n, commit(x, p, 7, d))
					break
				}
				if alike+other >= f && other >= 2 {
					goesOn(t, r, n, accept(x, b, p, seq, deps))
					break
				}
				takesNothing(t, r)
				leadIs(t, r, x, 1, b, i+1)
			}
		}
	}
}

// Other attributes are others if they are lower too; the union has the lead's own.
func TestP13_10LowerAttributes(t *testing.T) {
	x, b, d := in(1, 1), bal(0, 1), vec(0, 0, 8)
	for _, a := range []api.Msg{preAcceptOK(x, b, 6, d), preAcceptOK(x, b, 7, vec(0, 0, 7)), preAcceptOK(x, b, 1, vec(0, 0, 0))} {
		r := fresh(t, 1, 3, committed(in(2, 8), q, 6, vec(0, 0, 0)))
		proposes(t, r, p, x)
		r.Take()
		receives(t, r, 2, a)
		takesNothing(t, r)
		receives(t, r, 0, a)
		goesOn(t, r, 3, accept(x, b, p, 7, d))
	}
}

// With one reply that differs all others must be alike; with two there is no waiting, from F on.
func TestP13_10JustEnough(t *testing.T) {
	x, b := in(1, 1), bal(0, 1)
	for _, n := range sizes() {
		f, zero := n/2, filled(n, 0)
		r := ledPreAccept(t, n, x)
		ids := others(n, 1)
		receives(t, r, ids[0], preAcceptOK(x, b, 2, zero))
		for i, from := range ids[1 : 2*f-1] {
			receives(t, r, from, preAcceptOK(x, b, 1, zero))
			leadIs(t, r, x, 1, b, i+2)
		}
		takesNothing(t, r)
		receives(t, r, ids[2*f-1], preAcceptOK(x, b, 1, zero))
		goesOn(t, r, n, commit(x, p, 1, zero))

		r = ledPreAccept(t, n, x) // all alike
		for i, from := range ids[:2*f-2] {
			receives(t, r, from, preAcceptOK(x, b, 1, zero))
			leadIs(t, r, x, 1, b, i+1)
		}
		takesNothing(t, r)
		receives(t, r, ids[2*f-2], preAcceptOK(x, b, 1, zero))
		goesOn(t, r, n, commit(x, p, 1, zero))
		ignores(t, r, ids[2*f-1], preAcceptOK(x, b, 1, zero))
	}
	r := ledPreAccept(t, 7, x) // two that differ are fewer than F
	receives(t, r, 0, preAcceptOK(x, b, 2, filled(7, 0)))
	receives(t, r, 2, preAcceptOK(x, b, 2, filled(7, 0)))
	takesNothing(t, r)
	leadIs(t, r, x, 1, b, 2)
	receives(t, r, 3, preAcceptOK(x, b, 1, filled(7, 0)))
	goesOn(t, r, 7, accept(x, b, p, 2, filled(7, 0)))
}

// The union is of the lead's attributes and of all replies: the greatest Seq, and each row's greatest number.
func TestP13_10Union(t *testing.T) {
	x, b := in(1, 2), bal(0, 1)
	r := fresh(t, 1, 7, committed(in(1, 1), p, 4, filled(7, 0)), committed(in(5, 3), p, 2, filled(7, 0))) // 5, [0 1 0 0 0 3 0]
	proposes(t, r, q, x)
	r.Take()
	receives(t, r, 6, preAcceptOK(x, b, 5, vec(0, 1, 0, 0, 0, 3, 0)))
	receives(t, r, 0, preAcceptOK(x, b, 9, vec(4, 0, 0, 0, 7, 1, 0)))
	takesNothing(t, r)
	receives(t, r, 3, preAcceptOK(x, b, 8, vec(1, 0, topNum, 0, 8, 2, 0)))
	goesOn(t, r, 7, accept(x, b, q, 9, vec(4, 1, topNum, 0, 8, 3, 0)))
	for _, from := range []int{0, 2, 4, 6} {
		ignores(t, r, from, preAcceptOK(x, b, 5, filled(7, 9)))
	}
}

// Above round 0 there is no fast way: F replies are enough, however many are alike.
func TestP13_10PreAcceptAbove(t *testing.T) {
	x, b := in(0, 1), bal(1, 1)
	for _, n := range sizes() {
		f, zero, ids := n/2, filled(n, 0), others(n, 1)
		for other := range f + 1 { // the last so many of F replies differ
			r := ledAgain(t, n, x)
			seq, deps := 1, zero
			for i := range f {
				a := preAcceptOK(x, b, 1, zero)
				if i >= f-other {
					a = preAcceptOK(x, b, 10-i, with(zero, i, 4))
					seq, deps = max(seq, a.Seq), with(deps, i, 4)
				}
				takesNothing(t, r)
				leadIs(t, r, x, 1, b, i)
				receives(t, r, ids[2*f-1-i], a)
			}
			goesOn(t, r, n, accept(x, b, p, seq, deps))
			ignores(t, r, ids[0], preAcceptOK(x, b, 1, zero))
		}
	}
}

func TestP13_10Accept(t *testing.T) {
	for _, n := range sizes() {
		f, ids := n/2, others(n, 1)
		for _, c := range []struct {
			r *replica.Replica
			m api.Msg
		}{
			{ledAccept(t, n, in(1, 1)), commit(in(1, 1), p, 2+ids[f-1], filled(n, 0))},
			{ledNoop(t, n, in(0, 1)), commit(in(0, 1), api.Cmd{}, 0, filled(n, 0))},
			{heardNothing(t, fresh(t, 1, n, accepted(in(0, 1), bal(0, 0), q, 4, filled(n, 5))), n, in(0, 1)), commit(in(0, 1), q, 4, filled(n, 5))},
		} {
			_, b, _ := c.r.Lead(c.m.Inst)
			for i := range f {
				takesNothing(t, c.r)
				leadIs(t, c.r, c.m.Inst, 2, b, i)
				receives(t, c.r, ids[2*f-1-i], acceptOK(c.m.Inst, b))
			}
			goesOn(t, c.r, n, c.m)
			ignores(t, c.r, ids[0], acceptOK(c.m.Inst, b))
		}
	}
}

// takenUp is a recovery by replica 1: what it has itself, what it is told, and what it comes to.
type takenUp struct {
	name string
	n    int
	own  []api.Record
	told []deed
	want api.Msg
}

func (c takenUp) check(t *testing.T) {
	t.Helper()
	x := c.want.Inst
	r := fresh(t, 1, c.n, append(c.own, committed(in(2, 9), get("z"), 1, with(filled(c.n, 0), x.Row, x.Num)))...)
	recovers(t, r, x)
	r.Take()
	_, b, _ := r.Lead(x)
	for i, d := range c.told {
		leadIs(t, r, x, 3, b, i)
		takesNothing(t, r)
		receives(t, r, d.from, d.m)
	}
	if phase, _, _ := r.Lead(x); phase == 3 {
		t.Fatalf("%s: it waits on", c.name)
	}
	goesOn(t, r, c.n, c.want)
	for _, from := range others(c.n, 1) {
		ignores(t, r, from, none(x, b))
		ignores(t, r, from, acc(x, b, bal(0, x.Row), q, 77, filled(c.n, 7)))
	}
}

// tells is a vote of from.
func tells(from int, m api.Msg) deed { return deed{from, m} }

func TestP13_10NobodyVoted(t *testing.T) {
	for _, n := range sizes() {
		for _, x := range []api.Inst{in(0, 1), in(1, 1), in(2, 1), in(0, topNum)} {
			for _, l := range [][]api.Record{nil, records(promise(x, bal(4, 1)))} {
				b := bal(1, 1)
				if l != nil {
					b = bal(5, 1)
				}
				c := takenUp{"nobody", n, l, nil, accept(x, b, api.Cmd{}, 0, filled(n, 0))}
				for _, from := range others(n, 1)[n/2:] {
					c.told = append(c.told, tells(from, none(x, b)))
				}
				c.check(t)
			}
		}
	}
}

// Among 5 there are three votes: the own one and two.
func TestP13_10Votes(t *testing.T) {
	x, b, o := in(0, 1), bal(4, 1), bal(0, 0)
	d, zero, nobody := filled(5, 3), filled(5, 0), records(promise(x, bal(3, 1)))
	at := func(recs ...api.Record) []api.Record { return append(recs, promise(x, bal(3, 1))) }
	for _, c := range []takenUp{
		{"an Accepted one", 5, nobody, []deed{tells(2, none(x, b)), tells(4, acc(x, b, o, p, 6, d))}, accept(x, b, p, 6, d)},
		{"an Accepted one above round 0", 5, nobody, []deed{tells(4, acc(x, b, bal(3, 4), p, 6, d)), tells(2, none(x, b))}, accept(x, b, p, 6, d)},
		{"the own Accepted one", 5, at(accepted(x, o, p, 6, d)), []deed{tells(2, none(x, b)), tells(4, none(x, b))}, accept(x, b, p, 6, d)},
		{"an Accepted noop", 5, nobody, []deed{tells(2, none(x, b)), tells(4, acc(x, b, o, api.Cmd{}, 0, zero))}, accept(x, b, api.Cmd{}, 0, zero)},
		{"the higher of two Accepted ones", 5, at(accepted(x, bal(2, 0), q, 9, zero)), []deed{tells(2, acc(x, b, bal(2, 1), p, 6, d)), tells(4, acc(x, b, bal(1, 4), q, 8, zero))}, accept(x, b, p, 6, d)},
		{"an Accepted one, beside a PreAccepted one", 5, at(voted(x, bal(2, 0), q, 9, zero)), []deed{tells(2, acc(x, b, bal(2, 0), p, 6, d)), tells(4, none(x, b))}, accept(x, b, p, 6, d)},
		{"an Accepted one, beside Same ones", 5, at(sameVoted(x, q, 9, zero)), []deed{tells(2, same(x, b, q, 9, zero)), tells(4, acc(x, b, o, p, 6, d))}, accept(x, b, p, 6, d)},
		{"an Accepted one below a PreAccepted one", 5, nobody, []deed{tells(2, acc(x, b, bal(1, 2), p, 6, d)), tells(4, pre(x, b, bal(1, 3), q, 9, d))}, preAccept(x, b, q, 1, zero)},
		{"the own Accepted one below a PreAccepted one", 5, at(accepted(x, o, p, 6, d)), []deed{tells(2, none(x, b)), tells(4, pre(x, b, bal(1, 0), q, 9, d))}, preAccept(x, b, q, 1, zero)},
		{"an Accepted noop below a PreAccepted one", 5, at(accepted(x, bal(1, 0), api.Cmd{}, 0, zero)), []deed{tells(2, none(x, b)), tells(4, pre(x, b, bal(1, 1), q, 9, d))}, preAccept(x, b, q, 1, zero)},
		{"Same ones below an Accepted one", 5, at(sameVoted(x, q, 9, zero)), []deed{tells(2, same(x, b, q, 9, zero)), tells(4, acc(x, b, bal(1, 0), p, 6, d))}, accept(x, b, p, 6, d)},
		{"Same ones below a PreAccepted one", 5, at(sameVoted(x, q, 9, zero)), []deed{tells(2, same(x, b, q, 9, zero)), tells(4, pre(x, b, bal(1, 0), p, 6, d))}, preAccept(x, b, p, 1, zero)},
		{"PreAccepted ones above round 0", 5, at(voted(x, bal(1, 0), p, 9, d)), []deed{tells(2, pre(x, b, bal(1, 0), p, 9, d)), tells(4, pre(x, b, bal(1, 0), p, 9, d))}, preAccept(x, b, p, 1, zero)},
	} {
		t.Run(c.name, c.check)
	}
}

// What was committed without an Accept is found again by F Same votes, where the owner is not among those heard.
func TestP13_10SameVotes(t *testing.T) {
	x, o := in(0, 1), bal(0, 0)
	for _, n := range sizes() {
		f, d := n/2, filled(n, 3)
		zero := filled(n, 0)
		for sames := range f + 2 {
			for own := range 2 { // whether the own vote is one of them
				for rest := range 3 { // what the others are: none, a vote that isn't the same, one of the owner
					if own > sames || sames-own > f || rest > 0 && sames-own == f {
						continue
					}
					b, name := bal(1, 1), "Same"
					var l []api.Record
					if own == 1 {
						l = records(sameVoted(x, p, 5, d))
					}
					c := takenUp{name, n, l, nil, accept(x, b, p, 5, d)}
					for _, from := range others(n, 1)[1:][:sames-own] {
						c.told = append(c.told, tells(from, same(x, b, p, 5, d)))
					}
					for i := len(c.told); i < f; i++ {
						from, m := 2+i, none(x, b)
						if rest == 1 {
							m = pre(x, b, o, p, 8, filled(n, 4))
						}
						if rest == 2 && i == f-1 {
							from, m = 0, same(x, b, p, 5, d)
						}
						c.told = append(c.told, tells(from, m))
					}
					if sames < f || rest == 2 {
						c.want = preAccept(x, b, p, 1, zero)
					}
					if sames == 0 && rest == 0 {
						c.want = accept(x, b, api.Cmd{}, 0, zero)
					}
					c.check(t)
				}
			}
		}
	}
}

// The owner itself knows that it has not committed; so do all who hear from it, even if it has no vote.
func TestP13_10TheOwner(t *testing.T) {
	for _, n := range sizes() {
		f, d, zero := n/2, filled(n, 3), filled(n, 0)
		own := takenUp{"as the owner", n, records(sameVoted(in(1, 1), p, 5, d)), nil, preAccept(in(1, 1), bal(1, 1), p, 1, zero)}
		heard := takenUp{"of the owner", n, records(sameVoted(in(2, 1), p, 5, d)), []deed{tells(2, none(in(2, 1), bal(1, 1)))}, preAccept(in(2, 1), bal(1, 1), p, 1, zero)}
		for _, from := range others(n, 1)[:f] {
			own.told = append(own.told, tells(from, same(in(1, 1), bal(1, 1), p, 5, d)))
		}
		for from := n - f + 1; from < n; from++ {
			heard.told = append(heard.told, tells(from, same(in(2, 1), bal(1, 1), p, 5, d)))
		}
		own.check(t)
		heard.check(t)
	}
}

// Where votes differ that should not, the one with the lowest id is taken, in whichever order they came.
func TestP13_10VotesThatDiffer(t *testing.T) {
	x, b, o, zero := in(6, 1), bal(3, 1), bal(0, 6), filled(7, 0)
	r, s := put("k", "3"), put("k", "4")
	at := func(recs ...api.Record) []api.Record { return append(recs, promise(x, bal(2, 1))) }
	for _, c := range []takenUp{
		{"Accepted ones", 7, at(voted(x, bal(1, 0), p, 1, zero)), []deed{tells(4, acc(x, b, bal(1, 0), s, 4, filled(7, 4))), tells(2, acc(x, b, bal(1, 0), q, 2, filled(7, 2))), tells(0, pre(x, b, bal(1, 0), r, 3, filled(7, 3)))}, accept(x, b, q, 2, filled(7, 2))},
		{"Accepted ones, the own too", 7, at(accepted(x, bal(1, 0), p, 1, zero)), []deed{tells(4, acc(x, b, bal(1, 0), s, 4, filled(7, 4))), tells(2, acc(x, b, bal(1, 0), q, 2, filled(7, 2))), tells(3, acc(x, b, bal(1, 0), r, 3, filled(7, 3)))}, accept(x, b, p, 1, zero)},
		{"Accepted ones, one below the own", 7, at(accepted(x, bal(1, 0), p, 1, zero)), []deed{tells(4, acc(x, b, bal(1, 0), s, 4, filled(7, 4))), tells(2, acc(x, b, bal(1, 0), q, 2, filled(7, 2))), tells(0, acc(x, b, bal(1, 0), r, 3, filled(7, 3)))}, accept(x, b, r, 3, filled(7, 3))},
		{"Accepted ones, the lowest at a lower ballot", 7, at(accepted(x, o, p, 1, zero)), []deed{tells(5, acc(x, b, bal(1, 0), s, 4, filled(7, 4))), tells(3, acc(x, b, bal(1, 0), q, 2, filled(7, 2))), tells(0, acc(x, b, o, r, 3, filled(7, 3)))}, accept(x, b, q, 2, filled(7, 2))},
		{"Same ones", 7, at(voted(x, o, p, 1, zero)), []deed{tells(5, same(x, b, s, 4, filled(7, 4))), tells(2, same(x, b, q, 2, filled(7, 2))), tells(4, same(x, b, r, 3, filled(7, 3)))}, accept(x, b, q, 2, filled(7, 2))},
		{"Same ones, the own too", 7, at(sameVoted(x, p, 1, zero)), []deed{tells(5, same(x, b, s, 4, filled(7, 4))), tells(0, pre(x, b, o, q, 2, filled(7, 2))), tells(4, same(x, b, r, 3, filled(7, 3)))}, accept(x, b, p, 1, zero)},
		{"Same ones, one below the own", 7, at(sameVoted(x, p, 1, zero)), []deed{tells(0, same(x, b, s, 4, filled(7, 4))), tells(2, same(x, b, q, 2, filled(7, 2))), tells(4, none(x, b))}, accept(x, b, s, 4, filled(7, 4))},
		{"too few Same ones", 7, at(voted(x, o, p, 1, zero)), []deed{tells(5, same(x, b, s, 4, filled(7, 4))), tells(0, pre(x, b, o, q, 2, filled(7, 2))), tells(4, same(x, b, r, 3, filled(7, 3)))}, preAccept(x, b, q, 1, zero)},
		{"PreAccepted ones, the own too", 7, at(voted(x, bal(1, 3), p, 1, zero)), []deed{tells(5, pre(x, b, bal(1, 3), s, 4, zero)), tells(0, none(x, b)), tells(4, pre(x, b, bal(1, 3), r, 3, zero))}, preAccept(x, b, p, 1, zero)},
		{"PreAccepted ones, the lowest at a lower ballot", 7, at(voted(x, bal(1, 2), p, 1, zero)), []deed{tells(5, pre(x, b, bal(1, 3), s, 4, zero)), tells(0, pre(x, b, bal(1, 2), q, 4, zero)), tells(4, pre(x, b, bal(1, 3), r, 3, zero))}, preAccept(x, b, r, 1, zero)},
		{"Same ones and the owner's", 7, at(sameVoted(x, p, 1, zero)), []deed{tells(6, same(x, b, s, 4, zero)), tells(0, same(x, b, q, 2, zero)), tells(4, same(x, b, r, 3, zero))}, preAccept(x, b, q, 1, zero)},
	} {
		t.Run(c.name, c.check)
	}
}

// What is pre-accepted anew has what the table knows by now, and neither the votes' attributes nor x itself.
func TestP13_10Anew(t *testing.T) {
	x, b := in(0, 2), bal(1, 1)
	known := records(voted(x, bal(0, 0), p, 50, filled(3, 50)), committed(in(0, 1), q, 4, filled(3, 0)), committed(in(0, 3), q, 6, filled(3, 0)))
	takenUp{"anew", 3, known, []deed{tells(2, pre(x, b, bal(0, 0), p, 60, filled(3, 60)))}, preAccept(x, b, p, 7, vec(3, 0, 0))}.check(t)
	r := fresh(t, 1, 3, known...) // what comes to be known while it waits counts too
	recovers(t, r, x)
	receives(t, r, 2, commit(in(2, 5), q, topSeq, filled(3, 0)))
	r.Take()
	receives(t, r, 2, none(x, b))
	goesOn(t, r, 3, preAccept(x, b, p, topSeq, vec(3, 0, 5)))
}

// Recovered once more, what counts as the own vote is still what was voted for.
func TestP13_10RecoveredTwice(t *testing.T) {
	x := in(0, 1)
	r := fresh(t, 1, 5, sameVoted(x, p, 5, filled(5, 3)))
	recovers(t, r, x)
	recovers(t, r, x)
	r.Take()
	receives(t, r, 3, none(x, bal(2, 1)))
	receives(t, r, 2, same(x, bal(2, 1), p, 5, filled(5, 3)))
	goesOn(t, r, 5, accept(x, bal(2, 1), p, 5, filled(5, 3)))
}
