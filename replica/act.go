package replica

import (
	"slices"

	"moot/api"
)

// preAccept begins with a command in a ballot of this replica's own.
func (r *Replica) preAccept(x api.Inst, b api.Ballot, c api.Cmd) {
	seq, deps := r.table.Attrs(c, x)
	r.write(api.Record{Kind: api.RecVoted, Inst: x, Bal: b, Same: b.Round == 0, Cmd: c, Seq: seq, Deps: deps})
	r.begin(&preAccepting{newCommon(r, x, b, c, api.Attr{Seq: seq, Deps: deps})})
}

// accept goes on with a command and its attributes, which stand from now on in this ballot.
func (r *Replica) accept(x api.Inst, b api.Ballot, c api.Cmd, a api.Attr) {
	r.write(api.Record{Kind: api.RecAccepted, Inst: x, Bal: b, Cmd: c, Seq: a.Seq, Deps: a.Deps})
	r.begin(&accepting{newCommon(r, x, b, c, a)})
}

// prepare takes an instance over, with the slot as it stands as the own vote.
func (r *Replica) prepare(s api.Slot, b api.Ballot) {
	r.write(api.Record{Kind: api.RecPromise, Inst: s.Inst, Bal: b})
	r.begin(&preparing{newCommon(r, s.Inst, b, api.Cmd{}, api.Attr{}), ownVote(r.id, s)})
}

func (r *Replica) commit(x api.Inst, c api.Cmd, a api.Attr) {
	r.write(api.Record{Kind: api.RecCommitted, Inst: x, Cmd: c, Seq: a.Seq, Deps: a.Deps})
	r.sendAll(commitOf(r.slot(x)))
}

// begin puts a lead into the place of the one that was there, and asks all others.
func (r *Replica) begin(l lead) {
	r.leads[l.instance()] = l
	r.sendAll(l.question())
}

// take does what a lead comes to.
func (r *Replica) take(l lead, s step) {
	switch s.kind {
	case toCommit:
		r.commit(l.instance(), s.cmd, s.attr)
	case toAccept:
		r.accept(l.instance(), l.ballot(), s.cmd, s.attr)
	case toPreAccept:
		r.preAccept(l.instance(), l.ballot(), s.cmd)
	}
}

// write applies a record that the table takes, and keeps it to be given out.
func (r *Replica) write(rec api.Record) {
	r.table.Apply(rec)
	// Every record but a commit takes the slot to its own ballot; a lead ends where that isn't the lead's.
	if l, ok := r.leads[rec.Inst]; ok && (rec.Kind == api.RecCommitted || rec.Bal != l.ballot()) {
		delete(r.leads, rec.Inst)
	}
	rec.Deps = slices.Clone(rec.Deps)
	r.records = append(r.records, rec)
}

// send keeps a message to be given out, with a list of its own.
func (r *Replica) send(to int, m api.Msg) {
	m.Deps = slices.Clone(m.Deps)
	r.outs = append(r.outs, api.Out{To: to, Msg: m})
}

func (r *Replica) sendAll(m api.Msg) {
	for id := range r.n {
		if id != r.id {
			r.send(id, m)
		}
	}
}

// commitOf tells a committed slot.
func commitOf(s api.Slot) api.Msg {
	return api.Msg{Kind: api.MsgCommit, Inst: s.Inst, Cmd: s.Cmd, Seq: s.Seq, Deps: s.Deps}
}
