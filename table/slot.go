package table

import (
	"cmp"
	"slices"

	"moot/api"
)

// unheard is what the slot of an instance is taken as where the table has none.
func unheard(x api.Inst) api.Slot { return api.Slot{Inst: x, Bal: firstBallot(x)} }

func firstBallot(x api.Inst) api.Ballot { return api.Ballot{Who: x.Row} }

// faultOf is what speaks against a valid record at the slot of its instance.
func faultOf(s api.Slot, r api.Record) api.Errno {
	switch {
	case s.State == api.StateCommitted:
		return faultWhenDone(s, r)
	case r.Kind == api.RecCommitted:
		return api.OK
	case isOld(s, r):
		return api.ErrTableOld
	case hasVoted(s, r):
		return api.ErrTableVoted
	}
	return api.OK
}

// faultWhenDone: behind a commit nothing is taken but that same commit.
func faultWhenDone(s api.Slot, r api.Record) api.Errno {
	switch {
	case r.Kind != api.RecCommitted:
		return api.ErrTableDone
	case s.Cmd != r.Cmd || s.Seq != r.Seq || !slices.Equal(s.Deps, r.Deps):
		return api.ErrTableClash
	}
	return api.OK
}

// isOld: a vote is taken at the ballot that is promised, but a promise must go beyond it.
func isOld(s api.Slot, r api.Record) bool {
	order := compareBallots(r.Bal, s.Bal)
	return order < 0 || order == 0 && r.Kind == api.RecPromise
}

// hasVoted tells whether the slot has a vote at the record's ballot that doesn't give way to it.
func hasVoted(s api.Slot, r api.Record) bool {
	givesWay := s.State == api.StatePreAccepted && r.Kind == api.RecAccepted
	return s.State != api.StateNone && s.VBal == r.Bal && !givesWay
}

// changed is what a record that nothing speaks against makes of a slot.
func changed(s api.Slot, r api.Record) api.Slot {
	if r.Kind == api.RecPromise {
		s.Bal = r.Bal
		return s
	}
	// A record's fields that its kind doesn't have are zero, as they should be in the slot.
	out := api.Slot{Inst: r.Inst, Bal: r.Bal, VBal: r.Bal, Same: r.Same, Cmd: r.Cmd, Seq: r.Seq, Deps: slices.Clone(r.Deps)}
	switch r.Kind {
	case api.RecVoted:
		out.State = api.StatePreAccepted
	case api.RecAccepted:
		out.State = api.StateAccepted
	case api.RecCommitted:
		out.State = api.StateCommitted
		out.Bal = firstBallot(r.Inst)
	}
	return out
}

// recordsOf is the least list of records that makes a slot; its Deps become the record's.
func recordsOf(s api.Slot) []api.Record {
	promise := api.Record{Kind: api.RecPromise, Inst: s.Inst, Bal: s.Bal}
	r := api.Record{Inst: s.Inst, Bal: s.VBal, Same: s.Same, Cmd: s.Cmd, Seq: s.Seq, Deps: s.Deps}
	switch s.State {
	case api.StateNone:
		return []api.Record{promise}
	case api.StateCommitted:
		r.Kind = api.RecCommitted
		return []api.Record{r}
	case api.StatePreAccepted:
		r.Kind = api.RecVoted
	case api.StateAccepted:
		r.Kind = api.RecAccepted
	}
	if s.Bal == s.VBal {
		return []api.Record{r}
	}
	return []api.Record{r, promise}
}

// copyOf is the slot with a list of its own.
func copyOf(s api.Slot) api.Slot {
	s.Deps = slices.Clone(s.Deps)
	return s
}

func compareBallots(a, b api.Ballot) int {
	return cmp.Or(cmp.Compare(a.Round, b.Round), cmp.Compare(a.Who, b.Who))
}

func byInst(a, b api.Slot) int {
	return cmp.Or(cmp.Compare(a.Inst.Row, b.Inst.Row), cmp.Compare(a.Inst.Num, b.Inst.Num))
}
