package msg

import (
	"cmp"

	"moot/api"
	"moot/command"
)

type kindRow struct {
	from  int // the first version that has the kind
	round int // the least round of its ballot
}

var kinds = [...]kindRow{
	api.MsgPreAccept:   {from: 1},
	api.MsgPreAcceptOK: {from: 1},
	api.MsgAccept:      {from: 1},
	api.MsgAcceptOK:    {from: 1},
	api.MsgCommit:      {from: 1},
	api.MsgPrepare:     {from: 1, round: 1},
	api.MsgPrepareOK:   {from: 1, round: 1},
	api.MsgNack:        {from: 1},
	api.MsgWant:        {from: 2},
}

// isKind tells whether version v has the kind; the table's place 0 is none.
func isKind(v, kind int) bool {
	return 0 < kind && kind < len(kinds) && kinds[kind].from <= v
}

// isBallot tells whether b is a ballot of the instance x: round 0 is the row's own.
func isBallot(n int, x api.Inst, b api.Ballot) bool {
	inBounds := 0 <= b.Round && b.Round <= api.MaxRound && 0 <= b.Who && b.Who < n
	return inBounds && (b.Round > 0 || b.Who == x.Row)
}

func below(a, b api.Ballot) bool {
	return a.Round < b.Round || a.Round == b.Round && a.Who < b.Who
}

// unless is the error of a rule that may hold.
func unless(holds bool, e api.Errno) api.Errno {
	if holds {
		return api.OK
	}
	return e
}

func (h head) instFault(n int) api.Errno {
	row, num := h.inst.Row, h.inst.Num
	return unless(0 <= row && row < n && 1 <= num && num <= api.MaxNum, api.ErrMsgInst)
}

func (h head) ballotFault(n int, b api.Ballot) api.Errno {
	return unless(isBallot(n, h.inst, b) && b.Round >= kinds[h.kind].round, api.ErrMsgBallot)
}

func (x vote) voteFault(n int) api.Errno {
	known := x.state == api.StatePreAccepted || x.state == api.StateAccepted
	maySame := x.state == api.StatePreAccepted && x.vbal.Round == 0
	return unless(known && isBallot(n, x.inst, x.vbal) && below(x.vbal, x.bal) && (maySame || !x.same), api.ErrMsgVote)
}

func (x nack) voteFault(n int) api.Errno {
	return unless(isBallot(n, x.inst, x.promised) && below(x.bal, x.promised), api.ErrMsgVote)
}

// mayNoop: a noop is never what is first proposed; it is put in a command's place by a recovery, which asks for it to be accepted.
func (x proposal) mayNoop() bool { return x.kind != api.MsgPreAccept }

func (x vote) mayNoop() bool { return x.state != api.StatePreAccepted }

func (x load) loadFault(v, n int, mayNoop bool) api.Errno {
	noop := x.isNoop()
	return cmp.Or(command.Check(v, x.cmd), x.noopFault(mayNoop), seqFault(noop, x.Seq), depsFault(n, noop, x.Deps))
}

func (x load) isNoop() bool { return x.cmd.Kind == api.Noop }

func (x load) noopFault(mayNoop bool) api.Errno {
	return unless(mayNoop || !x.isNoop(), api.ErrMsgNoop)
}

func seqFault(noop bool, seq int) api.Errno {
	if noop {
		return unless(seq == 0, api.ErrMsgSeq)
	}
	return unless(1 <= seq && seq <= api.MaxSeq, api.ErrMsgSeq)
}

func depsFault(n int, noop bool, deps []int) api.Errno {
	if len(deps) != n {
		return api.ErrMsgDeps
	}
	most := api.MaxNum
	if noop {
		most = 0
	}
	for _, x := range deps {
		if x < 0 || x > most {
			return api.ErrMsgDeps
		}
	}
	return api.OK
}
