package replica_test

import (
	"testing"

	"moot/api"
	"moot/replica"
)

// trio is the examples' three replicas.
func trio() []*replica.Replica {
	return []*replica.Replica{replica.New(0, 3), replica.New(1, 3), replica.New(2, 3)}
}

// The chapter's examples, in an order in which each finds what it is about.
func TestExamples(t *testing.T) {
	r := trio()
	x, y, zero := in(0, 1), in(2, 1), vec(0, 0, 0)

	// 1
	proposes(t, r[0], p, x)
	takes(t, r[0], records(sameVoted(x, p, 1, zero)), outs(
		to(1, preAccept(x, bal(0, 0), p, 1, zero)),
		to(2, preAccept(x, bal(0, 0), p, 1, zero))))

	// 2
	receives(t, r[1], 0, preAccept(x, bal(0, 0), p, 1, zero))
	takes(t, r[1], records(sameVoted(x, p, 1, zero)), outs(to(0, preAcceptOK(x, bal(0, 0), 1, zero))))
	receives(t, r[1], 0, preAccept(x, bal(0, 0), p, 1, zero))
	takes(t, r[1], nil, outs(to(0, preAcceptOK(x, bal(0, 0), 1, zero))))

	// 3
	receives(t, r[0], 1, preAcceptOK(x, bal(0, 0), 1, zero))
	takes(t, r[0], records(committed(x, p, 1, zero)), outs(
		to(1, commit(x, p, 1, zero)),
		to(2, commit(x, p, 1, zero))))
	leadIs(t, r[0], x, 0, bal(0, 0), 0)

	// 4
	proposes(t, r[2], q, y)
	takes(t, r[2], records(sameVoted(y, q, 1, zero)), all(3, 2, preAccept(y, bal(0, 2), q, 1, zero)))
	receives(t, r[1], 2, preAccept(y, bal(0, 2), q, 1, zero))
	takes(t, r[1], records(voted(y, bal(0, 2), q, 2, vec(1, 0, 0))), outs(to(2, preAcceptOK(y, bal(0, 2), 2, vec(1, 0, 0)))))
	receives(t, r[2], 1, preAcceptOK(y, bal(0, 2), 2, vec(1, 0, 0)))
	takesNothing(t, r[2])
	leadIs(t, r[2], y, 1, bal(0, 2), 1)
	timesOut(t, r[2], y)
	takes(t, r[2], records(accepted(y, bal(0, 2), q, 2, vec(1, 0, 0))), outs(
		to(0, accept(y, bal(0, 2), q, 2, vec(1, 0, 0))),
		to(1, accept(y, bal(0, 2), q, 2, vec(1, 0, 0)))))

	// 5
	recovers(t, r[1], x)
	takes(t, r[1], records(promise(x, bal(1, 1))), outs(to(0, prepare(x, bal(1, 1))), to(2, prepare(x, bal(1, 1)))))
	receives(t, r[2], 1, prepare(x, bal(1, 1)))
	takes(t, r[2], records(promise(x, bal(1, 1))), outs(to(1, none(x, bal(1, 1)))))
	receives(t, r[1], 2, none(x, bal(1, 1)))
	takes(t, r[1], records(accepted(x, bal(1, 1), p, 1, zero)), outs(
		to(0, accept(x, bal(1, 1), p, 1, zero)),
		to(2, accept(x, bal(1, 1), p, 1, zero))))

	// 6
	receives(t, r[0], 1, prepare(x, bal(1, 1)))
	takes(t, r[0], nil, outs(to(1, commit(x, p, 1, zero))))

	// 7
	receives(t, r[2], 0, preAccept(x, bal(0, 0), p, 1, zero))
	takes(t, r[2], nil, outs(to(0, nack(x, bal(0, 0), bal(1, 1)))))
}

// 7, where replica 0 still has its lead.
func TestExampleOfANack(t *testing.T) {
	r := trio()
	x := in(0, 1)
	proposes(t, r[0], p, x)
	r[0].Take()
	leadIs(t, r[0], x, 1, bal(0, 0), 0)
	receives(t, r[0], 2, nack(x, bal(0, 0), bal(1, 1)))
	takes(t, r[0], records(promise(x, bal(1, 1))), nil)
	noLead(t, r[0], x)
	slotsAre(t, r[0], api.Slot{Inst: x, Bal: bal(1, 1), State: 1, Same: true, Cmd: p, Seq: 1, Deps: vec(0, 0, 0)})
}
