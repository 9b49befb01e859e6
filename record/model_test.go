package record_test

import (
	"bytes"
	"testing"

	"moot/api"
	"moot/command"
	"moot/record"
	"moot/vector"
	"moot/wire"
)

// The model is the chapter's words once more, field by field and by names. It leaves by panic.
func stopIf(wrong bool, e api.Errno) {
	if wrong {
		panic(e)
	}
}

func caught(e *api.Errno) {
	if given := recover(); given != nil {
		*e = given.(api.Errno)
	}
}

// isZero tells whether a field is.
func isZero(r api.Record, field string) bool {
	switch field {
	case "Id":
		return r.Id == 0
	case "N":
		return r.N == 0
	case "Inst":
		return r.Inst.Row == 0 && r.Inst.Num == 0
	case "Bal":
		return r.Bal.Round == 0 && r.Bal.Who == 0
	case "Same":
		return !r.Same
	case "Cmd":
		return r.Cmd == api.Cmd{}
	case "Seq":
		return r.Seq == 0
	}
	return len(r.Deps) == 0
}

func modelHead(r api.Record) {
	stopIf(r.N < 1 || r.N > 7 || r.Id < 0 || r.Id > r.N-1, api.ErrRecHead)
}

func modelInst(n int, r api.Record) {
	stopIf(r.Inst.Row < 0 || r.Inst.Row > n-1, api.ErrRecInst)
	stopIf(r.Inst.Num < 1 || r.Inst.Num > topNum, api.ErrRecInst)
}

func modelBallot(n int, r api.Record) {
	stopIf(r.Bal.Round < 0 || r.Bal.Round > topRound, api.ErrRecBallot)
	stopIf(r.Bal.Who < 0 || r.Bal.Who > n-1, api.ErrRecBallot)
	stopIf(r.Bal.Round == 0 && r.Bal.Who != r.Inst.Row, api.ErrRecBallot)
	stopIf(r.Kind == 2 && r.Bal.Round == 0, api.ErrRecBallot)
}

func modelSame(r api.Record) { stopIf(r.Same && r.Bal.Round != 0, api.ErrRecSame) }

func modelNoop(r api.Record) { stopIf(r.Cmd.Kind == 0 && r.Kind == 3, api.ErrRecAttr) }

func modelAttr(n int, r api.Record) {
	noop := r.Cmd.Kind == 0
	stopIf(noop && r.Seq != 0, api.ErrRecAttr)
	stopIf(!noop && (r.Seq < 1 || r.Seq > topSeq), api.ErrRecAttr)
	stopIf(len(r.Deps) != n, api.ErrRecAttr)
	for _, k := range r.Deps {
		stopIf(k < 0 || k > topNum || noop && k != 0, api.ErrRecAttr)
	}
}

func modelCheck(n int, r api.Record) (e api.Errno) {
	defer caught(&e)
	stopIf(n < 1 || n > 7, api.ErrSize)
	stopIf(r.Kind < 1 || r.Kind > 5, api.ErrRecKind)
	for _, field := range fieldNames() {
		stopIf(!has(r.Kind, field) && !isZero(r, field), api.ErrRecExtra)
	}
	if r.Kind == 1 {
		modelHead(r)
		return api.OK
	}
	modelInst(n, r)
	if has(r.Kind, "Bal") {
		modelBallot(n, r)
	}
	if r.Kind == 3 {
		modelSame(r)
	}
	if has(r.Kind, "Cmd") {
		e := command.Check(2, r.Cmd)
		stopIf(e != api.OK, e)
		modelNoop(r)
		modelAttr(n, r)
	}
	return api.OK
}

// modelEncode writes a record that is valid.
func modelEncode(r api.Record) []byte {
	out := []byte{byte(r.Kind)}
	if r.Kind == 1 {
		return append(out, byte(r.Id), byte(r.N))
	}
	out = join(out, number(uint64(8*r.Inst.Num+r.Inst.Row)))
	if has(r.Kind, "Bal") {
		out = join(out, number(uint64(8*r.Bal.Round+r.Bal.Who)))
	}
	switch {
	case r.Kind == 3 && r.Same:
		out = append(out, 1)
	case r.Kind == 3:
		out = append(out, 0)
	}
	if has(r.Kind, "Cmd") {
		b, _ := command.Encode(2, r.Cmd)
		out = join(out, b)
		if r.Cmd.Kind != 0 {
			d, _ := vector.Pack(2, r.Deps)
			out = join(out, number(uint64(r.Seq)), d)
		}
	}
	return out
}

type modelReader struct {
	n    int
	rest []byte
	r    api.Record
}

func (s *modelReader) behind(size int, e api.Errno) {
	stopIf(e != api.OK, e)
	s.rest = s.rest[size:]
}

func (s *modelReader) number() uint64 {
	x, size, e := wire.GetUint(s.rest)
	s.behind(size, e)
	return x
}

// small: what no field may be stays so.
func small(x uint64) int {
	if x > 1<<40 {
		return -1
	}
	return int(x)
}

func (s *modelReader) octet() int {
	stopIf(len(s.rest) == 0, api.ErrShort)
	x := s.rest[0]
	s.rest = s.rest[1:]
	return int(x)
}

func (s *modelReader) head() {
	id := s.number()
	s.r.Id, s.r.N = small(id), small(s.number())
	modelHead(s.r)
}

func (s *modelReader) place() {
	x := s.number()
	s.r.Inst = api.Inst{Row: int(x & 7), Num: small(x >> 3)}
	modelInst(s.n, s.r)
	if has(s.r.Kind, "Bal") {
		x := s.number()
		s.r.Bal = api.Ballot{Round: small(x >> 3), Who: int(x & 7)}
		modelBallot(s.n, s.r)
	}
	if s.r.Kind == 3 {
		x := s.octet()
		stopIf(x != 0 && x != 1, api.ErrRecSame)
		s.r.Same = x == 1
		modelSame(s.r)
	}
}

func (s *modelReader) load() {
	c, size, e := command.Decode(2, s.rest)
	s.behind(size, e)
	s.r.Cmd = c
	modelNoop(s.r)
	if c.Kind == 0 {
		s.r.Deps = filled(s.n, 0)
		return
	}
	s.r.Seq = small(s.number())
	stopIf(s.r.Seq < 1 || s.r.Seq > topSeq, api.ErrRecAttr)
	d, size, e := vector.Unpack(2, s.n, s.rest)
	s.behind(size, e)
	s.r.Deps = d
}

func (s *modelReader) read() {
	s.r.Kind = s.octet()
	stopIf(s.r.Kind < 1 || s.r.Kind > 5, api.ErrRecKind)
	if s.r.Kind == 1 {
		s.head()
	} else {
		s.place()
	}
	if has(s.r.Kind, "Cmd") {
		s.load()
	}
	stopIf(len(s.rest) > 0, api.ErrRecRest)
}

func modelDecode(n int, b []byte) (api.Record, api.Errno) {
	s := modelReader{n: n, rest: b}
	e := func() (e api.Errno) {
		defer caught(&e)
		stopIf(n < 1 || n > 7, api.ErrSize)
		s.read()
		return api.OK
	}()
	if e != api.OK {
		return api.Record{}, e
	}
	return s.r, api.OK
}

// checkAgainstModel holds Decode against the model; what it takes is valid, and just what Encode would write.
func checkAgainstModel(t *testing.T, n int, b []byte) {
	t.Helper()
	want, fault := modelDecode(n, b)
	r, e := record.Decode(n, b)
	if !same(r, want) || e != fault {
		t.Fatalf("Decode(%d, %.60x) = %s, %d, want %s, %d", n, b, short(r), e, short(want), fault)
	}
	if e != api.OK {
		return
	}
	if e := record.Check(n, r); e != api.OK {
		t.Fatalf("Decode(%d, %.60x) = %s, but Check of that is %d", n, b, short(r), e)
	}
	if again := encoded(t, n, r); !bytes.Equal(again, b) {
		t.Fatalf("Decode(%d, %.60x) = %s, but Encode of that is %.60x", n, b, short(r), again)
	}
}
