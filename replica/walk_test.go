package replica_test

import (
	"maps"
	"slices"
	"testing"

	"moot/api"
)

func (d *dice) command() api.Cmd {
	keys := []string{"a", "b", "c"}
	c := api.Cmd{Kind: 1 + d.below(8), Client: d.below(2), Req: d.below(2), Key: pick(d, keys[:2])}
	switch c.Kind {
	case api.Put:
		c.Val = pick(d, []string{"", "1", "2"})
	case api.Add:
		c.N = int64(d.below(3)) - 1
	case api.Move, api.Copy, api.Count:
		c.Key2 = "c"
	}
	return c
}

// inst is one of few, so that many meet.
func (d *dice) inst(n int) api.Inst {
	return in(d.below(n), pick(d, []int{1, 1, 2, 2, 3}))
}

func (d *dice) ballot(n int, x api.Inst, rounds int) api.Ballot {
	if round := d.below(rounds); round > 0 {
		return bal(round, d.below(n))
	}
	return first(x)
}

func (d *dice) attrs(n int) (int, []int) {
	var deps []int
	for range n {
		deps = append(deps, pick(d, []int{0, 0, 1, 2, 3}))
	}
	return 1 + d.below(4), deps
}

// content is a command with attributes, at times a noop.
func (d *dice) content(n, ofNoop int) (api.Cmd, int, []int) {
	if d.below(ofNoop) == 0 {
		return api.Cmd{}, 0, filled(n, 0)
	}
	seq, deps := d.attrs(n)
	return d.command(), seq, deps
}

// message is a valid one, of anybody.
func (d *dice) message(n int) api.Msg {
	w := api.Msg{Kind: 1 + d.below(9), Inst: d.inst(n)}
	w.Bal = d.ballot(n, w.Inst, 4)
	switch w.Kind {
	case api.MsgPreAccept:
		w.Cmd = d.command()
		w.Seq, w.Deps = d.attrs(n)
	case api.MsgPreAcceptOK:
		w.Seq, w.Deps = d.attrs(n)
	case api.MsgAccept:
		w.Cmd, w.Seq, w.Deps = d.content(n, 8)
	case api.MsgCommit:
		w.Bal = bal(0, 0)
		w.Cmd, w.Seq, w.Deps = d.content(n, 8)
	case api.MsgPrepare, api.MsgPrepareOK:
		w.Bal = bal(1+d.below(4), d.below(n))
		if w.Kind == api.MsgPrepareOK {
			d.vote(n, &w)
		}
	case api.MsgNack:
		w.VBal = bal(w.Bal.Round+1+d.below(2), d.below(n))
	case api.MsgWant:
		w.Bal = bal(0, 0)
	}
	return w
}

// vote fills a PrepareOK in.
func (d *dice) vote(n int, w *api.Msg) {
	w.State = pick(d, []int{0, 1, 1, 1, 2})
	if w.State == 0 {
		return
	}
	w.VBal = first(w.Inst)
	if w.Bal.Round > 1 && d.below(2) == 0 {
		w.VBal = bal(1+d.below(w.Bal.Round-1), d.below(n))
	}
	w.Cmd, w.Seq, w.Deps = d.content(n, 1<<30)
	if w.State == 1 {
		w.Same = w.VBal.Round == 0 && d.below(3) > 0
	} else {
		w.Cmd, w.Seq, w.Deps = d.content(n, 4)
	}
}

// fits makes of a message one that a lead waits for, or one that its slot has.
func (d *dice) fits(m *model, w api.Msg) api.Msg {
	leads := slices.SortedFunc(maps.Keys(m.leads), func(x, y api.Inst) int { return 8*(x.Num-y.Num) + x.Row - y.Row })
	if len(leads) == 0 || d.below(5) == 0 {
		return w
	}
	x := pick(d, leads)
	l := m.leads[x]
	w = api.Msg{Inst: x, Bal: l.bal}
	switch pick(d, []int{l.phase, l.phase, l.phase, l.phase, 1, 2, 3, 4}) {
	case 1:
		w.Kind, w.Seq, w.Deps = api.MsgPreAcceptOK, l.seq, slices.Clone(l.deps)
		if d.below(2) == 0 || l.phase != 1 {
			w.Seq, w.Deps = d.attrs(m.n)
		}
	case 2:
		w.Kind = api.MsgAcceptOK
	case 3:
		w.Kind = api.MsgPrepareOK
		d.vote(m.n, &w)
	case 4:
		w.Kind, w.VBal = api.MsgNack, bal(l.bal.Round+d.below(2), m.n-1)
	}
	return w
}

// again is a commit with just what a slot has, or nearly.
func (d *dice) again(m *model, w api.Msg) api.Msg {
	s, ok := m.slots[w.Inst]
	if !ok || s.State == 0 {
		return w
	}
	w = commit(w.Inst, s.Cmd, s.Seq, slices.Clone(s.Deps))
	switch d.below(5) {
	case 0:
		w.Cmd.Req++
	case 1:
		w.Seq++
	case 2:
		w.Deps[d.below(m.n)]++
	}
	return w
}

// odd is the message with something changed that may make it wrong.
func (d *dice) odd(w api.Msg) api.Msg {
	switch d.below(9) {
	case 0:
		w.Kind = d.below(12) - 1
	case 1:
		w.Inst.Row = d.below(10) - 1
	case 2:
		w.Inst.Num = pick(d, []int{0, -1, topNum + 1})
	case 3:
		w.Bal = bal(d.below(4)-1, d.below(9)-1)
	case 4:
		w.VBal = bal(d.below(4)-1, d.below(9)-1)
	case 5:
		w.State = d.below(5) - 1
	case 6:
		w.Cmd = pick(d, []api.Cmd{{}, {Kind: 9}, put("", ""), {Kind: 1, Key: "a", Val: "v"}})
	case 7:
		w.Seq = pick(d, []int{0, -1, topSeq, topSeq + 1})
	case 8:
		w.Deps = append(slices.Clone(w.Deps), 0)
	}
	return w
}

// step does one thing to both; it answers what of Receive.
func (b *both) step() (int, api.Errno) {
	b.t.Helper()
	d, n := b.d, b.m.n
	switch d.below(14) {
	case 0:
		c := d.command()
		if d.below(9) == 0 {
			c = pick(d, []api.Cmd{{}, {Kind: 9}, put("", "v"), {Kind: 1, Key: "a", Val: "v"}})
		}
		b.propose(c)
		return 0, api.OK
	case 1:
		b.wish(1+d.below(3), pick(d, []api.Inst{d.inst(n), d.inst(n), d.inst(n), in(d.below(9)-1, d.below(3)-1)}))
		return 0, api.OK
	case 2:
		b.wish(api.ActRecover, d.inst(n))
		return 0, api.OK
	case 3:
		b.wish(api.ActTimeout, d.inst(n))
		return 0, api.OK
	}
	w := d.message(n)
	switch d.below(8) {
	case 0, 1, 2, 3:
		w = d.fits(b.m, w)
	case 4:
		w = d.again(b.m, w)
	}
	from := d.below(n)
	if asks := w.Kind == 1 || w.Kind == 3 || w.Kind == 6; asks && d.below(6) > 0 {
		from = w.Bal.Who
	}
	if d.below(12) == 0 {
		w = d.odd(w)
	}
	if d.below(20) == 0 {
		from = d.below(n+2) - 1
	}
	return w.Kind, b.receive(from, w)
}

// What a replica answers, writes and sends is what the chapter's words say, on walks through all calls.
func TestWalks(t *testing.T) {
	d := dice(13)
	taken, answers := map[int]int{}, map[api.Errno]int{}
	written, sent := map[int]int{}, map[int]int{}
	for range 1500 {
		n := pick(&d, sizes())
		b := newBoth(t, &d, d.below(n), n)
		for range 80 {
			kind, e := b.step()
			answers[e]++
			if e == api.OK {
				taken[kind]++
			}
			for _, r := range b.m.records {
				written[r.Kind]++
			}
			for _, o := range b.m.outs {
				sent[o.Msg.Kind]++
			}
		}
		b.taken()
	}
	for kind := 1; kind <= 9; kind++ {
		if taken[kind] < 500 || sent[kind] < 500 || kind > 1 && kind < 6 && written[kind] < 500 {
			t.Errorf("of kind %d only %d were received, %d sent, %d written", kind, taken[kind], sent[kind], written[kind])
		}
	}
	for _, e := range []api.Errno{api.ErrFrom, api.ErrWho, api.ErrClash, api.ErrMsgInst, api.ErrMsgBallot} {
		if answers[e] < 50 {
			t.Errorf("only %d answers were %d", answers[e], e)
		}
	}
}
