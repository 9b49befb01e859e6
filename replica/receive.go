package replica

import (
	"cmp"
	"slices"

	"moot/api"
	"moot/msg"
	"moot/vector"
)

// Receive takes a message.
func (r *Replica) Receive(from int, m api.Msg) api.Errno {
	if !isReplica(r.n, from) || from == r.id {
		return api.ErrFrom
	}
	if e := msg.Check(2, r.n, m); e != api.OK {
		return e
	}
	if isQuestion(m) && m.Bal.Who != from {
		return api.ErrWho
	}
	s := r.slot(m.Inst)
	switch m.Kind {
	case api.MsgPreAccept, api.MsgAccept, api.MsgPrepare:
		r.asked(from, s, m)
	case api.MsgCommit:
		return r.committed(s, m)
	case api.MsgWant:
		r.wanted(from, s)
	case api.MsgNack:
		r.refused(m)
	default:
		r.replied(from, m)
	}
	return api.OK
}

// isQuestion tells whether only who leads the message's ballot may send it.
func isQuestion(m api.Msg) bool {
	return m.Kind == api.MsgPreAccept || m.Kind == api.MsgAccept || m.Kind == api.MsgPrepare
}

// asked answers one who leads an instance.
func (r *Replica) asked(from int, s api.Slot, m api.Msg) {
	if s.State == api.StateCommitted {
		r.send(from, commitOf(s))
		return
	}
	if compareBallots(m.Bal, s.Bal) < 0 {
		r.send(from, api.Msg{Kind: api.MsgNack, Inst: m.Inst, Bal: m.Bal, VBal: s.Bal})
		return
	}
	switch m.Kind {
	case api.MsgPreAccept:
		r.askedToPreAccept(from, s, m)
	case api.MsgAccept:
		r.askedToAccept(from, s, m)
	case api.MsgPrepare:
		r.askedToPrepare(from, s, m)
	}
}

func (r *Replica) askedToPreAccept(from int, s api.Slot, m api.Msg) {
	if !hasVoted(s, m.Bal) {
		s = r.votePreAccepted(m)
	}
	if s.State == api.StatePreAccepted {
		r.send(from, api.Msg{Kind: api.MsgPreAcceptOK, Inst: m.Inst, Bal: m.Bal, Seq: s.Seq, Deps: s.Deps})
	}
}

// votePreAccepted adds what this replica knows to what the leader does; it answers the slot that becomes of it.
func (r *Replica) votePreAccepted(m api.Msg) api.Slot {
	seq, deps := r.table.Attrs(m.Cmd, m.Inst)
	seq = max(seq, m.Seq)
	deps, _ = vector.Union(deps, m.Deps)
	same := m.Bal.Round == 0 && seq == m.Seq && slices.Equal(deps, m.Deps)
	r.write(api.Record{Kind: api.RecVoted, Inst: m.Inst, Bal: m.Bal, Same: same, Cmd: m.Cmd, Seq: seq, Deps: deps})
	return r.slot(m.Inst)
}

func (r *Replica) askedToAccept(from int, s api.Slot, m api.Msg) {
	if s.State != api.StateAccepted || s.VBal != m.Bal {
		r.write(api.Record{Kind: api.RecAccepted, Inst: m.Inst, Bal: m.Bal, Cmd: m.Cmd, Seq: m.Seq, Deps: m.Deps})
	}
	r.send(from, api.Msg{Kind: api.MsgAcceptOK, Inst: m.Inst, Bal: m.Bal})
}

func (r *Replica) askedToPrepare(from int, s api.Slot, m api.Msg) {
	if hasVoted(s, m.Bal) {
		return
	}
	if m.Bal != s.Bal {
		r.write(api.Record{Kind: api.RecPromise, Inst: m.Inst, Bal: m.Bal})
	}
	// Of a slot without a vote all these fields are zero.
	r.send(from, api.Msg{Kind: api.MsgPrepareOK, Inst: m.Inst, Bal: m.Bal, State: s.State, Same: s.Same, VBal: s.VBal, Cmd: s.Cmd, Seq: s.Seq, Deps: s.Deps})
}

func (r *Replica) committed(s api.Slot, m api.Msg) api.Errno {
	if s.State != api.StateCommitted {
		r.write(api.Record{Kind: api.RecCommitted, Inst: m.Inst, Cmd: m.Cmd, Seq: m.Seq, Deps: m.Deps})
		return api.OK
	}
	if s.Cmd != m.Cmd || s.Seq != m.Seq || !slices.Equal(s.Deps, m.Deps) {
		return api.ErrClash
	}
	return api.OK
}

func (r *Replica) wanted(from int, s api.Slot) {
	if s.State == api.StateCommitted {
		r.send(from, commitOf(s))
	}
}

// refused: somebody has promised a higher ballot, so the lead that is meant can come to nothing.
func (r *Replica) refused(m api.Msg) {
	if l, ok := r.leads[m.Inst]; ok && l.ballot() == m.Bal {
		r.write(api.Record{Kind: api.RecPromise, Inst: m.Inst, Bal: m.VBal})
	}
}

// replied counts a reply to what a lead asks, and goes on if it is enough.
func (r *Replica) replied(from int, m api.Msg) {
	l, ok := r.leads[m.Inst]
	if ok && l.ballot() == m.Bal && l.reply() == m.Kind && l.heard(from, m) {
		r.take(l, l.next())
	}
}

// hasVoted tells whether a slot that isn't committed has a vote at this ballot.
func hasVoted(s api.Slot, b api.Ballot) bool {
	return s.State != api.StateNone && s.VBal == b
}

func compareBallots(a, b api.Ballot) int {
	return cmp.Or(cmp.Compare(a.Round, b.Round), cmp.Compare(a.Who, b.Who))
}
