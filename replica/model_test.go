package replica_test

import (
	"reflect"
	"slices"
	"testing"

	"moot/api"
	"moot/command"
	"moot/msg"
	"moot/replica"
)

// modelLead is a lead, whatever its phase.
type modelLead struct {
	phase int
	bal   api.Ballot
	cmd   api.Cmd
	seq   int
	deps  []int
	own   api.Msg         // a PrepareOK
	votes map[int]api.Msg // the replies that count
}

// model is a replica by the chapter's words, as plainly as can be.
type model struct {
	id, n, f int
	slots    map[api.Inst]api.Slot
	leads    map[api.Inst]*modelLead
	records  []api.Record
	outs     []api.Out
}

func newModel(id, n int) *model {
	return &model{id: id, n: n, f: n / 2, slots: map[api.Inst]api.Slot{}, leads: map[api.Inst]*modelLead{}}
}

// rank puts the ballots that may be into one row of numbers.
func rank(b api.Ballot) int { return 8*b.Round + b.Who }

func (m *model) slot(x api.Inst) api.Slot {
	if s, ok := m.slots[x]; ok {
		return s
	}
	return api.Slot{Inst: x, Bal: first(x)}
}

func (m *model) top(row int) int {
	top := 0
	for x := range m.slots {
		if x.Row == row && x.Num > top {
			top = x.Num
		}
	}
	return top
}

func (m *model) known(x api.Inst) bool {
	for y, s := range m.slots {
		if y == x || len(s.Deps) > 0 && x.Num <= s.Deps[x.Row] {
			return true
		}
	}
	return false
}

func (m *model) attrs(c api.Cmd, x api.Inst) (int, []int) {
	seq, deps := 1, make([]int, m.n)
	for y, s := range m.slots {
		if y != x && command.Conflict(c, s.Cmd) {
			seq = max(seq, min(s.Seq+1, topSeq))
			deps[y.Row] = max(deps[y.Row], y.Num)
		}
	}
	return seq, deps
}

// write: what a record makes of the slot and the lead of its instance.
func (m *model) write(r api.Record) {
	x := r.Inst
	s := api.Slot{Inst: x, Bal: r.Bal, VBal: r.Bal, State: r.Kind - 2, Same: r.Same, Cmd: r.Cmd, Seq: r.Seq, Deps: bare(r.Deps)}
	switch r.Kind {
	case 2:
		s = m.slot(x)
		s.Bal = r.Bal
	case 5:
		s.Bal, s.VBal = first(x), bal(0, 0)
	}
	if r.Kind == 5 || s.Bal != m.slot(x).Bal {
		delete(m.leads, x)
	}
	m.slots[x] = s
	m.records = append(m.records, r)
}

func (m *model) send(to int, w api.Msg) { m.outs = append(m.outs, api.Out{To: to, Msg: w}) }

func (m *model) sendAll(w api.Msg) { m.outs = append(m.outs, all(m.n, m.id, w)...) }

func (m *model) accept(x api.Inst, b api.Ballot, c api.Cmd, seq int, deps []int) {
	m.write(accepted(x, b, c, seq, deps))
	m.leads[x] = &modelLead{phase: 2, bal: b, cmd: c, seq: seq, deps: deps, votes: map[int]api.Msg{}}
	m.sendAll(accept(x, b, c, seq, deps))
}

func (m *model) commit(x api.Inst, c api.Cmd, seq int, deps []int) {
	m.write(committed(x, c, seq, deps))
	m.sendAll(commit(x, c, seq, deps))
}

func (m *model) preAccept(x api.Inst, b api.Ballot, c api.Cmd) {
	seq, deps := m.attrs(c, x)
	r := voted(x, b, c, seq, deps)
	r.Same = b.Round == 0
	m.write(r)
	m.leads[x] = &modelLead{phase: 1, bal: b, cmd: c, seq: seq, deps: deps, votes: map[int]api.Msg{}}
	m.sendAll(preAccept(x, b, c, seq, deps))
}

func (m *model) propose(c api.Cmd) (api.Inst, api.Errno) {
	if e := command.Check(2, c); e != api.OK {
		return api.Inst{}, e
	}
	if c.Kind == 0 {
		return api.Inst{}, api.ErrNoop
	}
	k := m.top(m.id) + 1
	if k > topNum {
		return api.Inst{}, api.ErrRow
	}
	m.preAccept(in(m.id, k), bal(0, m.id), c)
	return in(m.id, k), api.OK
}

func (m *model) isInst(x api.Inst) bool {
	return x.Row >= 0 && x.Row < m.n && x.Num >= 1 && x.Num <= topNum
}

func (m *model) recover(x api.Inst) api.Errno {
	if !m.isInst(x) {
		return api.ErrArg
	}
	if !m.known(x) {
		return api.ErrUnknown
	}
	s := m.slot(x)
	if s.State == 3 {
		return api.ErrDone
	}
	if s.Bal.Round == topRound {
		return api.ErrRound
	}
	b := bal(s.Bal.Round+1, m.id)
	m.write(promise(x, b))
	m.leads[x] = &modelLead{phase: 3, bal: b, own: m.told(s, b), votes: map[int]api.Msg{}}
	m.sendAll(prepare(x, b))
	return api.OK
}

// told is a PrepareOK of what a slot has.
func (m *model) told(s api.Slot, b api.Ballot) api.Msg {
	w := none(s.Inst, b)
	if s.State != 0 {
		w.State, w.Same, w.VBal, w.Cmd, w.Seq, w.Deps = s.State, s.Same, s.VBal, s.Cmd, s.Seq, bare(s.Deps)
	}
	return w
}

func (m *model) timeout(x api.Inst) api.Errno {
	if !m.isInst(x) {
		return api.ErrArg
	}
	if s := m.slot(x); s.State == 3 {
		m.sendAll(commit(x, s.Cmd, s.Seq, s.Deps))
		return api.OK
	}
	l, ok := m.leads[x]
	if !ok {
		return api.ErrLead
	}
	if l.phase == 1 && l.bal.Round == 0 && len(l.votes) >= m.f {
		seq, deps := m.union(l)
		m.accept(x, l.bal, l.cmd, seq, deps)
		return api.OK
	}
	w := []api.Msg{preAccept(x, l.bal, l.cmd, l.seq, l.deps), accept(x, l.bal, l.cmd, l.seq, l.deps), prepare(x, l.bal)}[l.phase-1]
	for id := range m.n {
		if _, replied := l.votes[id]; id != m.id && !replied {
			m.send(id, w)
		}
	}
	return api.OK
}

func (m *model) union(l *modelLead) (int, []int) {
	seq, deps := l.seq, slices.Clone(l.deps)
	for _, v := range l.votes {
		seq = max(seq, v.Seq)
		for i := range deps {
			deps[i] = max(deps[i], v.Deps[i])
		}
	}
	return seq, deps
}

func (m *model) want(x api.Inst) api.Errno {
	if !m.isInst(x) {
		return api.ErrArg
	}
	if !m.known(x) {
		return api.ErrUnknown
	}
	if m.slot(x).State == 3 {
		return api.ErrDone
	}
	m.sendAll(want(x))
	return api.OK
}

func (m *model) receive(from int, w api.Msg) api.Errno {
	if from < 0 || from >= m.n || from == m.id {
		return api.ErrFrom
	}
	if e := msg.Check(2, m.n, w); e != api.OK {
		return e
	}
	asks := w.Kind == 1 || w.Kind == 3 || w.Kind == 6
	if asks && w.Bal.Who != from {
		return api.ErrWho
	}
	x, s := w.Inst, m.slot(w.Inst)
	w.Deps = bare(w.Deps)
	switch {
	case asks && s.State == 3:
		m.send(from, commit(x, s.Cmd, s.Seq, s.Deps))
	case asks && rank(w.Bal) < rank(s.Bal):
		m.send(from, nack(x, w.Bal, s.Bal))
	case asks:
		m.asked(from, w)
	case w.Kind == 5 && s.State != 3:
		m.write(committed(x, w.Cmd, w.Seq, w.Deps))
	case w.Kind == 5:
		if w.Cmd != s.Cmd || w.Seq != s.Seq || !slices.Equal(w.Deps, s.Deps) {
			return api.ErrClash
		}
	case w.Kind == 9:
		if s.State == 3 {
			m.send(from, commit(x, s.Cmd, s.Seq, s.Deps))
		}
	default:
		m.replied(from, w)
	}
	return api.OK
}

func (m *model) asked(from int, w api.Msg) {
	x, b, s := w.Inst, w.Bal, m.slot(w.Inst)
	has := (s.State == 1 || s.State == 2) && s.VBal == b
	switch {
	case w.Kind == 1 && has && s.State == 1:
		m.send(from, preAcceptOK(x, b, s.Seq, s.Deps))
	case w.Kind == 1 && !has:
		seq, deps := m.attrs(w.Cmd, x)
		r := voted(x, b, w.Cmd, max(seq, w.Seq), nil)
		for i := range m.n {
			r.Deps = append(r.Deps, max(deps[i], w.Deps[i]))
		}
		r.Same = b.Round == 0 && r.Seq == w.Seq && slices.Equal(r.Deps, w.Deps)
		m.write(r)
		m.send(from, preAcceptOK(x, b, r.Seq, r.Deps))
	case w.Kind == 3:
		if !has || s.State == 1 {
			m.write(accepted(x, b, w.Cmd, w.Seq, w.Deps))
		}
		m.send(from, acceptOK(x, b))
	case w.Kind == 6 && !has:
		if b != s.Bal {
			m.write(promise(x, b))
		}
		m.send(from, m.told(s, b))
	}
}

func (m *model) replied(from int, w api.Msg) {
	l, ok := m.leads[w.Inst]
	if !ok || l.bal != w.Bal {
		return
	}
	if w.Kind == 8 {
		m.write(promise(w.Inst, w.VBal))
		return
	}
	if _, twice := l.votes[from]; twice || w.Kind != []int{2, 4, 7}[l.phase-1] {
		return
	}
	l.votes[from] = w
	switch l.phase {
	case 1:
		m.afterPreAccept(w.Inst, l)
	case 2:
		if len(l.votes) == m.f {
			m.commit(w.Inst, l.cmd, l.seq, l.deps)
		}
	case 3:
		if len(l.votes) == m.f {
			m.afterPrepare(w.Inst, l)
		}
	}
}

func (m *model) afterPreAccept(x api.Inst, l *modelLead) {
	alike := 0
	for _, v := range l.votes {
		if v.Seq == l.seq && slices.Equal(v.Deps, l.deps) {
			alike++
		}
	}
	seq, deps := m.union(l)
	switch enough := len(l.votes) >= m.f; {
	case l.bal.Round > 0 && enough:
		m.accept(x, l.bal, l.cmd, seq, deps)
	case l.bal.Round > 0:
	case alike >= 2*m.f-1:
		m.commit(x, l.cmd, l.seq, l.deps)
	case enough && len(l.votes)-alike >= 2:
		m.accept(x, l.bal, l.cmd, seq, deps)
	}
}

func (m *model) afterPrepare(x api.Inst, l *modelLead) {
	v := map[int]api.Msg{m.id: l.own}
	for from, w := range l.votes {
		v[from] = w
	}
	high := -1
	for _, w := range v {
		if w.State != 0 {
			high = max(high, rank(w.VBal))
		}
	}
	if high < 0 {
		m.accept(x, l.bal, api.Cmd{}, 0, make([]int, m.n))
		return
	}
	var h, takenAccepted, takenSame []api.Msg
	for id := range m.n {
		w, ok := v[id]
		if !ok || w.State == 0 || rank(w.VBal) != high {
			continue
		}
		h = append(h, w)
		if w.State == 2 {
			takenAccepted = append(takenAccepted, w)
		}
		if w.Same {
			takenSame = append(takenSame, w)
		}
	}
	_, owner := v[x.Row]
	switch {
	case len(takenAccepted) > 0:
		m.accept(x, l.bal, takenAccepted[0].Cmd, takenAccepted[0].Seq, takenAccepted[0].Deps)
	case high < 8 && !owner && len(takenSame) >= m.f:
		m.accept(x, l.bal, takenSame[0].Cmd, takenSame[0].Seq, takenSame[0].Deps)
	default:
		m.preAccept(x, l.bal, h[0].Cmd)
	}
}

// both are a replica and the model of it.
type both struct {
	t *testing.T
	r *replica.Replica
	m *model
	d *dice
}

func newBoth(t *testing.T, d *dice, id, n int) *both {
	return &both{t, fresh(t, id, n), newModel(id, n), d}
}

func (b *both) receive(from int, w api.Msg) api.Errno {
	b.t.Helper()
	e, want := b.r.Receive(from, w), b.m.receive(from, w)
	if e != want {
		b.t.Fatalf("Receive(%d, %+v) = %d, want %d", from, w, e, want)
	}
	b.agree()
	return e
}

func (b *both) propose(c api.Cmd) {
	b.t.Helper()
	x, e := b.r.Propose(c)
	if y, f := b.m.propose(c); x != y || e != f {
		b.t.Fatalf("Propose(%+v) = %v, %d, want %v, %d", c, x, e, y, f)
	}
	b.agree()
}

func (b *both) wish(what int, x api.Inst) {
	b.t.Helper()
	var e, want api.Errno
	switch what {
	case api.ActRecover:
		e, want = b.r.Recover(x), b.m.recover(x)
	case api.ActTimeout:
		e, want = b.r.Timeout(x), b.m.timeout(x)
	case api.ActWant:
		e, want = b.r.Want(x), b.m.want(x)
	}
	if e != want {
		b.t.Fatalf("wish %d for %v = %d, want %d", what, x, e, want)
	}
	b.agree()
}

// agree holds all that both show against each other; what comes out only now and then, so that it gathers.
func (b *both) agree() {
	b.t.Helper()
	want := view{Leads: map[api.Inst]leadView{}}
	for x, l := range b.m.leads {
		want.Leads[x] = leadView{l.phase, l.bal, len(l.votes)}
	}
	for row := range b.m.n {
		for _, num := range nums() {
			if s, ok := b.m.slots[in(row, num)]; ok {
				want.Slots = append(want.Slots, s)
			}
		}
	}
	want.Slots = bareSlots(want.Slots)
	if is := viewOf(b.r); !reflect.DeepEqual(is, want) {
		b.t.Fatalf("it shows\n%s%+v\nwant\n%s%+v", lines(is.Slots), is.Leads, lines(want.Slots), want.Leads)
	}
	if b.d.below(3) == 0 {
		b.taken()
	}
}

func (b *both) taken() {
	b.t.Helper()
	takes(b.t, b.r, b.m.records, b.m.outs)
	b.m.records, b.m.outs = nil, nil
}
