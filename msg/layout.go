package msg

import (
	"moot/api"
	"moot/wire"
)

// layout is how a version writes and reads what the two write differently.
type layout struct {
	version    int
	putInst    func(x api.Inst) []byte
	putBallot  func(b api.Ballot) []byte
	putVote    func(state int, same bool) []byte
	takeInst   func(s *items) api.Inst
	takeBallot func(s *items) api.Ballot
	takeVote   func(s *items) (state int, same bool)
}

func layoutOf(v int) layout {
	if v == 1 {
		return layout{
			version: 1,
			putInst: putInst1, putBallot: putBallot1, putVote: putVote1,
			takeInst: takeInst1, takeBallot: takeBallot1, takeVote: takeVote1,
		}
	}
	return layout{
		version: 2,
		putInst: putInst2, putBallot: putBallot2, putVote: putVote2,
		takeInst: takeInst2, takeBallot: takeBallot2, takeVote: takeVote2,
	}
}

func putInst1(x api.Inst) []byte { return putTwo(x.Row, x.Num) }

func putInst2(x api.Inst) []byte { return putPacked(x.Num, x.Row) }

func putBallot1(b api.Ballot) []byte { return putTwo(b.Round, b.Who) }

func putBallot2(b api.Ballot) []byte { return putPacked(b.Round, b.Who) }

func putTwo(first, second int) []byte {
	return append(wire.PutUint(uint64(first)), wire.PutUint(uint64(second))...)
}

// putPacked writes two numbers as one; a replica's number has three bits.
func putPacked(count, replica int) []byte {
	return wire.PutUint(8*uint64(count) + uint64(replica))
}

func putVote1(state int, same bool) []byte {
	switch {
	case state == api.StateNone:
		return []byte{0}
	case same:
		return []byte{byte(state), 1}
	}
	return []byte{byte(state), 0}
}

// sameBit is what version 2 adds to the state of a vote that is the same.
const sameBit = 4

func putVote2(state int, same bool) []byte {
	if same {
		return []byte{byte(state) + sameBit}
	}
	return []byte{byte(state)}
}

func takeInst1(s *items) api.Inst {
	row, num := s.two()
	return api.Inst{Row: row, Num: num}
}

func takeInst2(s *items) api.Inst {
	num, row := s.packed()
	return api.Inst{Row: row, Num: num}
}

func takeBallot1(s *items) api.Ballot {
	round, who := s.two()
	return api.Ballot{Round: round, Who: who}
}

func takeBallot2(s *items) api.Ballot {
	round, who := s.packed()
	return api.Ballot{Round: round, Who: who}
}

func takeVote1(s *items) (state int, same bool) {
	state = s.next()
	s.refuse(unless(state <= api.StateAccepted, api.ErrMsgVote))
	if state == api.StateNone {
		return state, false
	}
	flag := s.next()
	s.refuse(unless(flag == 0 || flag == 1 && state == api.StatePreAccepted, api.ErrMsgVote))
	return state, flag == 1
}

func takeVote2(s *items) (state int, same bool) {
	switch x := s.next(); x {
	case api.StateNone, api.StatePreAccepted, api.StateAccepted:
		return x, false
	case api.StatePreAccepted + sameBit:
		return api.StatePreAccepted, true
	}
	s.refuse(api.ErrMsgVote)
	return api.StateNone, false
}
