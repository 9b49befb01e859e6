package msg

import (
	"math"

	"moot/api"
	"moot/command"
	"moot/vector"
	"moot/wire"
)

// items reads one item after the other. The first fault stays, and behind it nothing is read any more:
// each item is 0 then, and what is made of it is of no weight.
type items struct {
	rest  []byte
	fault api.Errno
}

// refuse takes up an error, unless there is one already; OK is none.
func (s *items) refuse(e api.Errno) {
	if s.fault == api.OK {
		s.fault = e
	}
}

// pass goes behind an item of that size; with an error the size is 0.
func (s *items) pass(size int, e api.Errno) {
	s.rest = s.rest[size:]
	s.refuse(e)
}

func (s *items) next() int {
	if len(s.rest) == 0 {
		s.refuse(api.ErrShort)
	}
	if s.fault != api.OK {
		return 0
	}
	x := int(s.rest[0])
	s.pass(1, api.OK)
	return x
}

func (s *items) number() uint64 {
	if s.fault != api.OK {
		return 0
	}
	x, size, e := wire.GetUint(s.rest)
	s.pass(size, e)
	return x
}

func (s *items) two() (first, second int) {
	first = intOf(s.number())
	second = intOf(s.number())
	return first, second
}

func (s *items) packed() (count, replica int) {
	x := s.number()
	return intOf(x / 8), int(x % 8)
}

// intOf is x as an int, of whatever size ints are. All bounds lie below 2^31 - 1, so what is above a bound stays above it.
func intOf(x uint64) int { return int(min(x, math.MaxInt32)) }

// scan reads a message's fields, each by the rule that Check has for it.
type scan struct {
	items
	layout layout
	n      int
}

func (s *scan) shape() shape {
	h := s.head()
	switch h.kind {
	case api.MsgPreAccept, api.MsgAccept:
		x := proposal{head: h, bal: s.ballot(h)}
		x.load = s.load(x.mayNoop())
		return x
	case api.MsgPreAcceptOK:
		x := estimate{head: h, bal: s.ballot(h)}
		x.Attr = s.attr(false)
		return x
	case api.MsgAcceptOK, api.MsgPrepare:
		return balloted{head: h, bal: s.ballot(h)}
	case api.MsgCommit:
		return commit{head: h, load: s.load(true)}
	case api.MsgPrepareOK:
		return s.told(h)
	case api.MsgNack:
		x := nack{head: h, bal: s.ballot(h)}
		x.promised = s.layout.takeBallot(&s.items)
		s.refuse(x.voteFault(s.n))
		return x
	}
	return bare{head: h}
}

func (s *scan) head() head {
	kind := s.next()
	s.refuse(unless(isKind(s.layout.version, kind), api.ErrMsgKind))
	h := head{kind: kind, inst: s.layout.takeInst(&s.items)}
	s.refuse(h.instFault(s.n))
	return h
}

func (s *scan) ballot(h head) api.Ballot {
	b := s.layout.takeBallot(&s.items)
	s.refuse(h.ballotFault(s.n, b))
	return b
}

// told reads a PrepareOK.
func (s *scan) told(h head) shape {
	bal := s.ballot(h)
	state, same := s.layout.takeVote(&s.items)
	if state == api.StateNone {
		return noVote{head: h, bal: bal}
	}
	x := vote{head: h, bal: bal, state: state, same: same}
	x.vbal = s.layout.takeBallot(&s.items)
	s.refuse(x.voteFault(s.n))
	x.load = s.load(x.mayNoop())
	return x
}

func (s *scan) load(mayNoop bool) load {
	x := load{cmd: s.cmd()}
	s.refuse(x.noopFault(mayNoop))
	x.Attr = s.attr(x.isNoop())
	return x
}

func (s *scan) cmd() api.Cmd {
	if s.fault != api.OK {
		return api.Cmd{}
	}
	c, size, e := command.Decode(s.layout.version, s.rest)
	s.pass(size, e)
	return c
}

func (s *scan) attr(noop bool) api.Attr {
	seq := intOf(s.number())
	s.refuse(seqFault(noop, seq))
	deps := s.deps()
	s.refuse(depsFault(s.n, noop, deps))
	return api.Attr{Seq: seq, Deps: deps}
}

func (s *scan) deps() []int {
	if s.fault != api.OK {
		return nil
	}
	deps, size, e := vector.Unpack(s.layout.version, s.n, s.rest)
	s.pass(size, e)
	return deps
}
