package record

import (
	"cmp"
	"slices"
	"strings"

	"moot/api"
	"moot/command"
	"moot/vector"
)

// version is the one of all logs.
const version = 2

// The letters of the fields beside Kind.
const (
	letterId   = 'w'
	letterN    = 'n'
	letterInst = 'i'
	letterBal  = 'b'
	letterSame = 's'
	letterCmd  = 'c'
	letterSeq  = 'q'
	letterDeps = 'd'
)

const allLetters = "wnibscqd"

// rows is what each kind is made of, in the order of the bytes; Check looks at the fields in the same order.
var rows = [...]string{
	api.RecHead:      "wn",
	api.RecPromise:   "ib",
	api.RecVoted:     "ibscqd",
	api.RecAccepted:  "ibcqd",
	api.RecCommitted: "icqd",
}

// isKind: the table's place 0 is none.
func isKind(kind int) bool { return 0 < kind && kind < len(rows) }

// hasExtra tells whether a field that the record's kind doesn't have is not zero.
func hasExtra(r api.Record) bool {
	for _, letter := range allLetters {
		if !strings.ContainsRune(rows[r.Kind], letter) && !isZero(r, letter) {
			return true
		}
	}
	return false
}

func isZero(r api.Record, letter rune) bool {
	switch letter {
	case letterId:
		return r.Id == 0
	case letterN:
		return r.N == 0
	case letterInst:
		return r.Inst == api.Inst{}
	case letterBal:
		return r.Bal == api.Ballot{}
	case letterSame:
		return !r.Same
	case letterCmd:
		return r.Cmd == api.Cmd{}
	case letterSeq:
		return r.Seq == 0
	}
	return len(r.Deps) == 0
}

// faultOf is what is amiss with a field that the record's kind has, the fields ahead of it being as they should.
// Check and Decode share it: both meet the fields in the order of the row.
func faultOf(n int, r api.Record, letter rune) api.Errno {
	switch letter {
	case letterId:
		return api.OK // its bound is N, so it is judged with N
	case letterN:
		return unless(isHead(r), api.ErrRecHead)
	case letterInst:
		return unless(isInst(n, r.Inst), api.ErrRecInst)
	case letterBal:
		return unless(isBallot(n, r), api.ErrRecBallot)
	case letterSame:
		return unless(!r.Same || r.Bal.Round == 0, api.ErrRecSame)
	case letterCmd:
		return cmp.Or(command.Check(version, r.Cmd), unless(mayNoop(r) || !isNoop(r), api.ErrRecAttr))
	case letterSeq:
		return unless(isSeq(r), api.ErrRecAttr)
	}
	return unless(isDeps(n, r), api.ErrRecAttr)
}

// unless is the error of a rule that may hold.
func unless(holds bool, e api.Errno) api.Errno {
	if holds {
		return api.OK
	}
	return e
}

// isHead: a log's first record says n itself, so the caller's n has no say.
func isHead(r api.Record) bool { return isSize(r.N) && 0 <= r.Id && r.Id < r.N }

func isInst(n int, x api.Inst) bool {
	return 0 <= x.Row && x.Row < n && 1 <= x.Num && x.Num <= api.MaxNum
}

// isBallot: round 0 is the row's own, and nobody needs to promise it.
func isBallot(n int, r api.Record) bool {
	b := r.Bal
	if b.Round == 0 {
		return b.Who == r.Inst.Row && r.Kind != api.RecPromise
	}
	return 1 <= b.Round && b.Round <= api.MaxRound && 0 <= b.Who && b.Who < n
}

func isNoop(r api.Record) bool { return r.Cmd.Kind == api.Noop }

// mayNoop: a noop is what a recovery asks to be accepted; it is never pre-accepted.
func mayNoop(r api.Record) bool { return r.Kind != api.RecVoted }

func isSeq(r api.Record) bool {
	if isNoop(r) {
		return r.Seq == 0
	}
	return 1 <= r.Seq && r.Seq <= api.MaxSeq
}

// isDeps: what the greatest allowed vector of length n covers is a vector of that length.
func isDeps(n int, r api.Record) bool {
	most := api.MaxNum
	if isNoop(r) {
		most = 0
	}
	return vector.Covers(slices.Repeat([]int{most}, n), r.Deps)
}
