package replica_test

import (
	"math"
	"slices"
	"testing"

	"moot/api"
	"moot/replica"
	"moot/table"
)

// isEmpty asks for a replica without anything.
func isEmpty(t *testing.T, r *replica.Replica) {
	t.Helper()
	slotsAre(t, r)
	takesNothing(t, r)
	for _, x := range append(noInsts(3), in(0, 1), in(1, 1), in(2, 1), in(6, 1), in(0, topNum)) {
		noLead(t, r, x)
	}
}

func TestP13_1New(t *testing.T) {
	for _, n := range sizes() {
		for id := range n {
			r := replica.New(id, n)
			if r == nil {
				t.Fatalf("New(%d, %d) is nil", id, n)
			}
			isEmpty(t, r)
			proposes(t, r, p, in(id, 1))
			noted := append(records(), sameVoted(in(id, 1), p, 1, filled(n, 0)))
			takes(t, r, noted, all(n, id, preAccept(in(id, 1), bal(0, id), p, 1, filled(n, 0))))
		}
	}
}

func TestP13_1NewOutOfBounds(t *testing.T) {
	for _, n := range sizes() {
		for _, id := range noReplicas(n) {
			if replica.New(id, n) != nil {
				t.Errorf("New(%d, %d) is one", id, n)
			}
		}
	}
	for _, n := range noSizes() {
		for _, id := range append(wild(), -1, 0, 1, 2, n-1, n, n+1) {
			if replica.New(id, n) != nil {
				t.Errorf("New(%d, %d) is one", id, n)
			}
		}
	}
}

// Two replicas have nothing in common.
func TestP13_1TwoReplicas(t *testing.T) {
	a, b := replica.New(0, 3), replica.New(0, 3)
	proposes(t, a, p, in(0, 1))
	isEmpty(t, b)
	proposes(t, b, q, in(0, 1))
	receives(t, b, 1, prepare(in(0, 1), bal(1, 1)))
	leadIs(t, a, in(0, 1), 1, bal(0, 0), 0)
	takes(t, a, records(sameVoted(in(0, 1), p, 1, vec(0, 0, 0))), all(3, 0, preAccept(in(0, 1), bal(0, 0), p, 1, vec(0, 0, 0))))
}

// stored are records that make slots of all States among 3 replicas.
func stored() []api.Record {
	return []api.Record{
		sameVoted(in(0, 1), p, 1, vec(0, 0, 0)), promise(in(0, 1), bal(1, 1)),
		accepted(in(0, 2), bal(1, 0), q, 3, vec(1, 2, 3)), promise(in(0, 2), bal(2, 0)),
		voted(in(1, 1), bal(0, 1), put("l", ""), 4, vec(2, 0, 4)),
		sameVoted(in(1, 5), p, 2, vec(9, 9, 9)), accepted(in(1, 5), bal(0, 1), p, 5, vec(3, 4, 5)), committed(in(1, 5), p, 6, vec(2, 1, 7)),
		accepted(in(2, 1), bal(0, 2), api.Cmd{}, 0, vec(0, 0, 0)), committed(in(2, 2), api.Cmd{}, 0, vec(0, 0, 0)),
		promise(in(2, 7), bal(1, 0)),
		committed(in(2, 8), pair(api.Copy, "k", "m"), 7, vec(0, 5, 0)),
	}
}

// storedSlots is what stored makes.
func storedSlots() []api.Slot {
	return []api.Slot{
		{Inst: in(0, 1), Bal: bal(1, 1), State: 1, Same: true, Cmd: p, Seq: 1, Deps: vec(0, 0, 0)},
		{Inst: in(0, 2), Bal: bal(2, 0), VBal: bal(1, 0), State: 2, Cmd: q, Seq: 3, Deps: vec(1, 2, 3)},
		{Inst: in(1, 1), Bal: bal(0, 1), VBal: bal(0, 1), State: 1, Cmd: put("l", ""), Seq: 4, Deps: vec(2, 0, 4)},
		{Inst: in(1, 5), Bal: bal(0, 1), State: 3, Cmd: p, Seq: 6, Deps: vec(2, 1, 7)},
		{Inst: in(2, 1), Bal: bal(0, 2), VBal: bal(0, 2), State: 2, Deps: vec(0, 0, 0)},
		{Inst: in(2, 2), Bal: bal(0, 2), State: 3, Deps: vec(0, 0, 0)},
		{Inst: in(2, 7), Bal: bal(1, 0)},
		{Inst: in(2, 8), Bal: bal(0, 2), State: 3, Cmd: pair(api.Copy, "k", "m"), Seq: 7, Deps: vec(0, 5, 0)},
	}
}

func TestP13_14Load(t *testing.T) {
	for id := range 3 {
		r := fresh(t, id, 3, stored()...)
		slotsAre(t, r, storedSlots()...)
		takesNothing(t, r)
		for _, s := range storedSlots() {
			noLead(t, r, s.Inst)
		}
		again := fresh(t, id, 3, append(stored(), committed(in(1, 5), p, 6, vec(2, 1, 7)))...)
		slotsAre(t, again, storedSlots()...)
	}
	for _, n := range sizes() {
		for id := range n {
			isEmpty(t, fresh(t, id, n))
			r, e := replica.Load(id, n, []api.Record{})
			if r == nil || e != api.OK {
				t.Fatalf("Load(%d, %d) = %v, %d", id, n, r, e)
			}
			isEmpty(t, r)
		}
	}
}

// loadFails asks for an error of Load.
func loadFails(t *testing.T, id, n int, rs []api.Record, want api.Errno) {
	t.Helper()
	if r, e := replica.Load(id, n, rs); r != nil || e != want {
		t.Errorf("Load(%d, %d, %+v) = %v, %d, want %d", id, n, rs, r, e, want)
	}
}

// n is looked at ahead of id, and id ahead of the records.
func TestP13_14LoadOutOfBounds(t *testing.T) {
	bad := []api.Record{{Kind: 77}}
	for _, n := range noSizes() {
		for _, id := range append(wild(), -1, 0, 1, n) {
			loadFails(t, id, n, nil, api.ErrSize)
			loadFails(t, id, n, bad, api.ErrSize)
		}
	}
	for _, n := range sizes() {
		for _, id := range noReplicas(n) {
			loadFails(t, id, n, nil, api.ErrArg)
			loadFails(t, id, n, bad, api.ErrArg)
		}
		loadFails(t, n-1, n, bad, api.ErrRecKind)
	}
}

// refusable are records that a table with stored refuses, each with the error.
func refusable() map[api.Errno][]api.Record {
	return map[api.Errno][]api.Record{
		api.ErrRecKind:    {{}, {Kind: 6}, {Kind: -1}, {Kind: math.MinInt}},
		api.ErrRecInst:    {promise(in(3, 1), bal(1, 0)), promise(in(-1, 1), bal(1, 0)), committed(in(0, 0), p, 1, vec(0, 0, 0)), committed(in(0, topNum+1), p, 1, vec(0, 0, 0))},
		api.ErrRecBallot:  {promise(in(0, 3), bal(0, 0)), promise(in(0, 3), bal(1, 3)), voted(in(0, 3), bal(0, 1), p, 1, vec(0, 0, 0)), promise(in(0, 3), bal(topRound+1, 0))},
		api.ErrRecSame:    {{Kind: 3, Inst: in(0, 3), Bal: bal(1, 1), Same: true, Cmd: p, Seq: 1, Deps: vec(0, 0, 0)}},
		api.ErrRecAttr:    {committed(in(0, 3), p, 1, vec(0, 0)), committed(in(0, 3), p, 0, vec(0, 0, 0)), voted(in(0, 3), bal(0, 0), api.Cmd{}, 0, vec(0, 0, 0))},
		api.ErrRecExtra:   {{Kind: 2, Inst: in(0, 3), Bal: bal(1, 0), Seq: 1}},
		api.ErrRecHead:    {{Kind: 1, Id: 3, N: 3}},
		api.ErrKey:        {committed(in(0, 3), put("", ""), 1, vec(0, 0, 0))},
		api.ErrTableHead:  {{Kind: 1, Id: 0, N: 3}, {Kind: 1, Id: 6, N: 7}},
		api.ErrTableDone:  {promise(in(1, 5), bal(9, 0)), voted(in(2, 2), bal(1, 0), p, 1, vec(0, 0, 0)), accepted(in(2, 8), bal(1, 1), p, 1, vec(0, 0, 0))},
		api.ErrTableOld:   {promise(in(0, 1), bal(1, 1)), promise(in(2, 7), bal(1, 0)), sameVoted(in(0, 1), p, 1, vec(0, 0, 0)), accepted(in(0, 2), bal(1, 0), q, 3, vec(1, 2, 3))},
		api.ErrTableVoted: {voted(in(1, 1), bal(0, 1), put("l", ""), 4, vec(2, 0, 4)), accepted(in(2, 1), bal(0, 2), api.Cmd{}, 0, vec(0, 0, 0))},
		api.ErrTableClash: {committed(in(1, 5), p, 7, vec(2, 1, 7)), committed(in(2, 2), p, 1, vec(0, 0, 0)), committed(in(1, 5), q, 6, vec(2, 1, 7)), committed(in(1, 5), p, 6, vec(2, 1, 6))},
	}
}

// A record that the table refuses, wherever it stands, is the end; the first one's error is told.
func TestP13_14LoadRefused(t *testing.T) {
	for e, l := range refusable() {
		for _, r := range l {
			loadFails(t, 1, 3, append(stored(), r), e)
			loadFails(t, 1, 3, append(append(stored(), r), promise(in(2, 9), bal(1, 0))), e)
			loadFails(t, 1, 3, append(append(stored(), r), api.Record{Kind: 77}, api.Record{Kind: 1, N: 3}), e)
			if e < api.ErrTableDone { // whatever stands in the table
				loadFails(t, 1, 3, append([]api.Record{r}, stored()...), e)
				for at := range stored() {
					loadFails(t, 1, 3, slices.Insert(stored(), at, r), e)
				}
			}
		}
	}
}

// Load's errors are the table's, whatever the records are.
func TestP13_14LoadAsTheTable(t *testing.T) {
	d := dice(1314)
	for range 400 {
		n := pick(&d, sizes())
		b, want := table.New(n), api.OK
		var l []api.Record
		for range 12 {
			x := d.inst(n)
			c, seq, deps := d.content(n, 9)
			l = append(l, pick(&d, []api.Record{promise(x, d.ballot(n, x, 3)), voted(x, d.ballot(n, x, 3), c, seq, deps), accepted(x, d.ballot(n, x, 3), c, seq, deps), committed(x, c, seq, deps)}))
			if want == api.OK {
				want = b.Apply(l[len(l)-1])
			}
		}
		if want != api.OK {
			loadFails(t, d.below(n), n, l, want)
			continue
		}
		slotsAre(t, fresh(t, d.below(n), n, l...), b.Slots()...)
	}
}

// A loaded replica goes on as if it had done itself what the records tell, but without a lead.
func TestP13_14LoadedGoesOn(t *testing.T) {
	load := func() *replica.Replica { return fresh(t, 2, 3, stored()...) }
	r := load() // the row is full up to 8, and every slot counts for what waits
	proposes(t, r, q, in(2, 9))
	takes(t, r, records(sameVoted(in(2, 9), q, 8, vec(2, 5, 8))), all(3, 2, preAccept(in(2, 9), bal(0, 2), q, 8, vec(2, 5, 8))))

	r = load() // it answers with what it has voted for
	receives(t, r, 0, prepare(in(0, 2), bal(3, 0)))
	takes(t, r, records(promise(in(0, 2), bal(3, 0))), outs(to(0, acc(in(0, 2), bal(3, 0), bal(1, 0), q, 3, vec(1, 2, 3)))))
	receives(t, r, 0, preAccept(in(0, 1), bal(0, 0), p, 1, vec(0, 0, 0)))
	takes(t, r, nil, outs(to(0, nack(in(0, 1), bal(0, 0), bal(1, 1)))))
	receives(t, r, 1, preAccept(in(1, 1), bal(0, 1), put("l", ""), 1, vec(0, 0, 0)))
	takes(t, r, nil, outs(to(1, preAcceptOK(in(1, 1), bal(0, 1), 4, vec(2, 0, 4)))))
	receives(t, r, 1, want(in(1, 5)))
	takes(t, r, nil, outs(to(1, commit(in(1, 5), p, 6, vec(2, 1, 7)))))
	refuses(t, r, 1, commit(in(1, 5), p, 5, vec(2, 1, 7)), api.ErrClash)

	r = load() // late replies find no lead
	ignores(t, r, 0, acceptOK(in(2, 1), bal(0, 2)))
	ignores(t, r, 0, nack(in(2, 1), bal(0, 2), bal(1, 0)))
	leaves(t, r, "Timeout", api.ErrLead, func() api.Errno { return r.Timeout(in(2, 1)) })
	recovers(t, r, in(2, 1))
	takes(t, r, records(promise(in(2, 1), bal(1, 2))), all(3, 2, prepare(in(2, 1), bal(1, 2))))
	receives(t, r, 0, none(in(2, 1), bal(1, 2)))
	takes(t, r, records(accepted(in(2, 1), bal(1, 2), api.Cmd{}, 0, vec(0, 0, 0))), all(3, 2, accept(in(2, 1), bal(1, 2), api.Cmd{}, 0, vec(0, 0, 0))))
}

// A replica that has done much, and one loaded with what it has written, show the same slots and answer the same.
func TestP13_14LoadOfALife(t *testing.T) {
	d := dice(13140)
	for range 150 {
		n := pick(&d, sizes())
		b := newBoth(t, &d, d.below(n), n)
		for range 60 {
			b.step()
			b.taken()
		}
		again := *b.m
		again.leads = map[api.Inst]*modelLead{}
		var l []api.Record
		for _, s := range b.r.Slots() {
			l = append(l, recordsOf(s)...)
		}
		next := &both{t, fresh(t, b.m.id, n, l...), &again, &d}
		next.agree()
		for range 30 {
			next.step()
		}
		next.taken()
	}
}

// recordsOf make a slot.
func recordsOf(s api.Slot) []api.Record {
	r := api.Record{Kind: s.State + 2, Inst: s.Inst, Bal: s.VBal, Same: s.Same, Cmd: s.Cmd, Seq: s.Seq, Deps: s.Deps}
	switch {
	case s.State == 0:
		return records(promise(s.Inst, s.Bal))
	case s.State == 3 || s.Bal == s.VBal:
		if s.State == 3 {
			r.Bal = bal(0, 0)
		}
		return records(r)
	}
	return records(r, promise(s.Inst, s.Bal))
}
