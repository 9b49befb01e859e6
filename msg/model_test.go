package msg_test

import (
	"bytes"
	"testing"

	"moot/api"
	"moot/command"
	"moot/msg"
	"moot/vector"
	"moot/wire"
)

// The model is the chapter's words once more, field by field and by names. It leaves by panic.
func stopIf(wrong bool, e api.Errno) {
	if wrong {
		panic(e)
	}
}

func caught(e *api.Errno) {
	if given := recover(); given != nil {
		*e = given.(api.Errno)
	}
}

func modelNumbers(v, n int) {
	stopIf(v != 1 && v != 2, api.ErrVersion)
	stopIf(n < 1 || n > 7, api.ErrSize)
}

// isZero tells whether a field is.
func isZero(m api.Msg, field string) bool {
	switch field {
	case "Bal":
		return m.Bal.Round == 0 && m.Bal.Who == 0
	case "VBal":
		return m.VBal.Round == 0 && m.VBal.Who == 0
	case "State":
		return m.State == 0
	case "Same":
		return !m.Same
	case "Cmd":
		return m.Cmd == api.Cmd{}
	case "Seq":
		return m.Seq == 0
	}
	return len(m.Deps) == 0
}

func modelBallot(n int, x api.Inst, b api.Ballot) bool {
	return !(b.Round < 0 || b.Round > topRound || b.Who < 0 || b.Who > n-1 || b.Round == 0 && b.Who != x.Row)
}

func modelInst(n int, m api.Msg) {
	stopIf(m.Inst.Row < 0 || m.Inst.Row > n-1, api.ErrMsgInst)
	stopIf(m.Inst.Num < 1 || m.Inst.Num > topNum, api.ErrMsgInst)
}

func modelBal(n int, m api.Msg) {
	stopIf(!modelBallot(n, m.Inst, m.Bal), api.ErrMsgBallot)
	stopIf((m.Kind == 6 || m.Kind == 7) && m.Bal.Round == 0, api.ErrMsgBallot)
}

func modelVote(n int, m api.Msg) {
	if m.Kind == 8 {
		stopIf(!modelBallot(n, m.Inst, m.VBal) || !ballotBelow(m.Bal, m.VBal), api.ErrMsgVote)
		return
	}
	stopIf(m.State != 0 && m.State != 1 && m.State != 2, api.ErrMsgVote)
	if m.State != 0 {
		stopIf(!modelBallot(n, m.Inst, m.VBal) || !ballotBelow(m.VBal, m.Bal), api.ErrMsgVote)
		stopIf(m.Same && (m.State == 2 || m.VBal.Round != 0), api.ErrMsgVote)
	}
}

func modelNoop(m api.Msg) {
	stopIf(m.Cmd.Kind == 0 && (m.Kind == 1 || m.Kind == 7 && m.State == 1), api.ErrMsgNoop)
}

func hasNoop(m api.Msg) bool { return has(m, "Cmd") && m.Cmd.Kind == 0 }

func modelSeq(m api.Msg) {
	if hasNoop(m) {
		stopIf(m.Seq != 0, api.ErrMsgSeq)
	} else {
		stopIf(m.Seq < 1 || m.Seq > topSeq, api.ErrMsgSeq)
	}
}

func modelDeps(n int, m api.Msg) {
	stopIf(len(m.Deps) != n, api.ErrMsgDeps)
	for _, k := range m.Deps {
		stopIf(k < 0 || k > topNum || hasNoop(m) && k != 0, api.ErrMsgDeps)
	}
}

func modelCheck(v, n int, m api.Msg) (e api.Errno) {
	defer caught(&e)
	modelNumbers(v, n)
	stopIf(m.Kind < 1 || m.Kind > lastKind(v), api.ErrMsgKind)
	for _, field := range fieldNames() {
		stopIf(!has(m, field) && !isZero(m, field), api.ErrMsgExtra)
	}
	modelInst(n, m)
	if has(m, "Bal") {
		modelBal(n, m)
	}
	if m.Kind == 7 || m.Kind == 8 {
		modelVote(n, m)
	}
	if has(m, "Cmd") {
		e := command.Check(v, m.Cmd)
		stopIf(e != api.OK, e)
		modelNoop(m)
	}
	if has(m, "Seq") {
		modelSeq(m)
	}
	if has(m, "Deps") {
		modelDeps(n, m)
	}
	return api.OK
}

func modelPair(v, first, second int, swapped bool) []byte {
	if v == 1 {
		return join(number(uint64(first)), number(uint64(second)))
	}
	if swapped {
		first, second = second, first
	}
	return number(uint64(8*first + second))
}

func modelBytesOfVote(v int, m api.Msg) []byte {
	flag := byte(0)
	if m.Same {
		flag = 1
	}
	vbal := modelPair(v, m.VBal.Round, m.VBal.Who, false)
	switch {
	case m.Kind == 8:
		return vbal
	case m.State == 0:
		return []byte{0}
	case v == 1:
		return join([]byte{byte(m.State), flag}, vbal)
	}
	return join([]byte{byte(m.State) + 4*flag}, vbal)
}

// modelEncode writes a message that is valid.
func modelEncode(v int, m api.Msg) []byte {
	out := join([]byte{byte(m.Kind)}, modelPair(v, m.Inst.Row, m.Inst.Num, true))
	if has(m, "Bal") {
		out = join(out, modelPair(v, m.Bal.Round, m.Bal.Who, false))
	}
	if m.Kind == 7 || m.Kind == 8 {
		out = join(out, modelBytesOfVote(v, m))
	}
	if has(m, "Cmd") {
		b, _ := command.Encode(v, m.Cmd)
		out = join(out, b)
	}
	if has(m, "Seq") {
		out = join(out, number(uint64(m.Seq)))
	}
	if has(m, "Deps") {
		b, _ := vector.Pack(v, m.Deps)
		out = join(out, b)
	}
	return out
}

type modelReader struct {
	v, n int
	rest []byte
	m    api.Msg
}

func (r *modelReader) behind(size int, e api.Errno) {
	stopIf(e != api.OK, e)
	r.rest = r.rest[size:]
}

// number reads one; what no int of a message may be stays so.
func (r *modelReader) number() uint64 {
	x, size, e := wire.GetUint(r.rest)
	r.behind(size, e)
	return x
}

func small(x uint64) int {
	if x > 1<<40 {
		return -1
	}
	return int(x)
}

func (r *modelReader) octet() int {
	stopIf(len(r.rest) == 0, api.ErrShort)
	x := r.rest[0]
	r.rest = r.rest[1:]
	return int(x)
}

// pair reads an instance (low first at version 1) or a ballot (high first).
func (r *modelReader) pair() (first, second uint64) {
	first = r.number()
	if r.v == 1 {
		return first, r.number()
	}
	return first >> 3, first & 7
}

func (r *modelReader) ballot() api.Ballot {
	round, who := r.pair()
	return api.Ballot{Round: small(round), Who: small(who)}
}

func (r *modelReader) inst() {
	a, b := r.pair()
	if r.v == 2 {
		a, b = b, a
	}
	r.m.Inst = api.Inst{Row: small(a), Num: small(b)}
	modelInst(r.n, r.m)
}

func (r *modelReader) state() {
	x := r.octet()
	if r.v == 2 {
		stopIf(x != 0 && x != 1 && x != 2 && x != 5, api.ErrMsgVote)
		r.m.State, r.m.Same = x&3, x == 5
		return
	}
	stopIf(x > 2, api.ErrMsgVote)
	r.m.State = x
	if x != 0 {
		flag := r.octet()
		stopIf(flag > 1 || flag == 1 && x == 2, api.ErrMsgVote)
		r.m.Same = flag == 1
	}
}

func (r *modelReader) read() {
	r.m.Kind = r.octet()
	stopIf(r.m.Kind < 1 || r.m.Kind > lastKind(r.v), api.ErrMsgKind)
	r.inst()
	if has(r.m, "Bal") {
		r.m.Bal = r.ballot()
		modelBal(r.n, r.m)
	}
	if r.m.Kind == 7 {
		r.state()
	}
	if has(r.m, "VBal") {
		r.m.VBal = r.ballot()
		modelVote(r.n, r.m)
	}
	if has(r.m, "Cmd") {
		c, size, e := command.Decode(r.v, r.rest)
		r.behind(size, e)
		r.m.Cmd = c
		modelNoop(r.m)
	}
	if has(r.m, "Seq") {
		r.m.Seq = small(r.number())
		modelSeq(r.m)
	}
	if has(r.m, "Deps") {
		d, size, e := vector.Unpack(r.v, r.n, r.rest)
		r.behind(size, e)
		r.m.Deps = d
		modelDeps(r.n, r.m)
	}
	stopIf(len(r.rest) > 0, api.ErrMsgRest)
}

func modelDecode(v, n int, b []byte) (api.Msg, api.Errno) {
	r := modelReader{v: v, n: n, rest: b}
	e := func() (e api.Errno) {
		defer caught(&e)
		modelNumbers(v, n)
		r.read()
		return api.OK
	}()
	if e != api.OK {
		return api.Msg{}, e
	}
	return r.m, api.OK
}

// checkAgainstModel holds Decode against the model; what it takes is valid, and just what Encode would write.
func checkAgainstModel(t *testing.T, v, n int, b []byte) {
	t.Helper()
	want, fault := modelDecode(v, n, b)
	m, e := msg.Decode(v, n, b)
	if !same(m, want) || e != fault {
		t.Fatalf("Decode(%d, %d, %.60x) = %s, %d, want %s, %d", v, n, b, short(m), e, short(want), fault)
	}
	if e != api.OK {
		return
	}
	if e := msg.Check(v, n, m); e != api.OK {
		t.Fatalf("Decode(%d, %d, %.60x) = %s, but Check of that is %d", v, n, b, short(m), e)
	}
	if again := encoded(t, v, n, m); !bytes.Equal(again, b) {
		t.Fatalf("Decode(%d, %d, %.60x) = %s, but Encode of that is %.60x", v, n, b, short(m), again)
	}
}
