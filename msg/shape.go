package msg

import (
	"cmp"
	"slices"

	"moot/api"
	"moot/command"
	"moot/vector"
	"moot/wire"
)

// shape is a message inside this package: there is a type for each set of fields that a message may have.
type shape interface {
	fault(v, n int) api.Errno // the first thing amiss in Check's order, from Inst on
	bytes(l layout) []byte
}

// head is what every shape has.
type head struct {
	kind int
	inst api.Inst
}

// load is what an instance runs and what it waits for.
type load struct {
	cmd api.Cmd
	api.Attr
}

// bare is a Want.
type bare struct{ head }

// balloted is an AcceptOK or a Prepare.
type balloted struct {
	head
	bal api.Ballot
}

// estimate is a PreAcceptOK.
type estimate struct {
	head
	bal api.Ballot
	api.Attr
}

// proposal is a PreAccept or an Accept.
type proposal struct {
	head
	bal api.Ballot
	load
}

type commit struct {
	head
	load
}

// noVote is a PrepareOK of State 0.
type noVote struct {
	head
	bal api.Ballot
}

// vote is a PrepareOK of any other State.
type vote struct {
	head
	bal   api.Ballot
	state int
	same  bool
	vbal  api.Ballot
	load
}

type nack struct {
	head
	bal, promised api.Ballot
}

// shapeOf takes up the fields that a message of m's kind has, and no others.
func shapeOf(m api.Msg) shape {
	h := head{kind: m.Kind, inst: m.Inst}
	attr := api.Attr{Seq: m.Seq, Deps: m.Deps}
	switch m.Kind {
	case api.MsgPreAccept, api.MsgAccept:
		return proposal{head: h, bal: m.Bal, load: load{cmd: m.Cmd, Attr: attr}}
	case api.MsgPreAcceptOK:
		return estimate{head: h, bal: m.Bal, Attr: attr}
	case api.MsgAcceptOK, api.MsgPrepare:
		return balloted{head: h, bal: m.Bal}
	case api.MsgCommit:
		return commit{head: h, load: load{cmd: m.Cmd, Attr: attr}}
	case api.MsgPrepareOK:
		if m.State == api.StateNone {
			return noVote{head: h, bal: m.Bal}
		}
		return vote{head: h, bal: m.Bal, state: m.State, same: m.Same, vbal: m.VBal, load: load{cmd: m.Cmd, Attr: attr}}
	case api.MsgNack:
		return nack{head: h, bal: m.Bal, promised: m.VBal}
	}
	return bare{head: h}
}

// msgOf is the message with the shape's fields; the others are zero.
func msgOf(x shape) api.Msg {
	switch x := x.(type) {
	case bare:
		return api.Msg{Kind: x.kind, Inst: x.inst}
	case balloted:
		return api.Msg{Kind: x.kind, Inst: x.inst, Bal: x.bal}
	case estimate:
		return api.Msg{Kind: x.kind, Inst: x.inst, Bal: x.bal, Seq: x.Seq, Deps: x.Deps}
	case proposal:
		return api.Msg{Kind: x.kind, Inst: x.inst, Bal: x.bal, Cmd: x.cmd, Seq: x.Seq, Deps: x.Deps}
	case commit:
		return api.Msg{Kind: x.kind, Inst: x.inst, Cmd: x.cmd, Seq: x.Seq, Deps: x.Deps}
	case noVote:
		return api.Msg{Kind: x.kind, Inst: x.inst, Bal: x.bal}
	case vote:
		return api.Msg{Kind: x.kind, Inst: x.inst, Bal: x.bal, VBal: x.vbal, State: x.state, Same: x.same, Cmd: x.cmd, Seq: x.Seq, Deps: x.Deps}
	case nack:
		return api.Msg{Kind: x.kind, Inst: x.inst, Bal: x.bal, VBal: x.promised}
	}
	return api.Msg{}
}

// hasExtra tells whether m has a field that is not zero and not its shape's: such a one is lost on the way into the shape and back.
func hasExtra(m api.Msg, x shape) bool {
	back := msgOf(x)
	return m.Bal != back.Bal || m.VBal != back.VBal || m.State != back.State || m.Same != back.Same ||
		m.Cmd != back.Cmd || m.Seq != back.Seq || len(m.Deps) != len(back.Deps)
}

func (x bare) fault(v, n int) api.Errno { return x.instFault(n) }

func (x balloted) fault(v, n int) api.Errno {
	return cmp.Or(x.instFault(n), x.ballotFault(n, x.bal))
}

func (x estimate) fault(v, n int) api.Errno {
	return cmp.Or(x.instFault(n), x.ballotFault(n, x.bal), seqFault(false, x.Seq), depsFault(n, false, x.Deps))
}

func (x proposal) fault(v, n int) api.Errno {
	return cmp.Or(x.instFault(n), x.ballotFault(n, x.bal), x.loadFault(v, n, x.mayNoop()))
}

func (x commit) fault(v, n int) api.Errno {
	return cmp.Or(x.instFault(n), x.loadFault(v, n, true))
}

func (x noVote) fault(v, n int) api.Errno {
	return cmp.Or(x.instFault(n), x.ballotFault(n, x.bal))
}

func (x vote) fault(v, n int) api.Errno {
	return cmp.Or(x.instFault(n), x.ballotFault(n, x.bal), x.voteFault(n), x.loadFault(v, n, x.mayNoop()))
}

func (x nack) fault(v, n int) api.Errno {
	return cmp.Or(x.instFault(n), x.ballotFault(n, x.bal), x.voteFault(n))
}

func (x bare) bytes(l layout) []byte { return x.start(l) }

func (x balloted) bytes(l layout) []byte {
	return slices.Concat(x.start(l), l.putBallot(x.bal))
}

func (x estimate) bytes(l layout) []byte {
	return slices.Concat(x.start(l), l.putBallot(x.bal), attrBytes(l, x.Attr))
}

func (x proposal) bytes(l layout) []byte {
	return slices.Concat(x.start(l), l.putBallot(x.bal), x.loadBytes(l))
}

func (x commit) bytes(l layout) []byte {
	return slices.Concat(x.start(l), x.loadBytes(l))
}

func (x noVote) bytes(l layout) []byte {
	return slices.Concat(x.start(l), l.putBallot(x.bal), l.putVote(api.StateNone, false))
}

func (x vote) bytes(l layout) []byte {
	return slices.Concat(x.start(l), l.putBallot(x.bal), l.putVote(x.state, x.same), l.putBallot(x.vbal), x.loadBytes(l))
}

func (x nack) bytes(l layout) []byte {
	return slices.Concat(x.start(l), l.putBallot(x.bal), l.putBallot(x.promised))
}

// start is what the bytes of every message begin with.
func (h head) start(l layout) []byte {
	return append([]byte{byte(h.kind)}, l.putInst(h.inst)...)
}

// loadBytes is for valid fields alone: Check has gone ahead, so the layers below find nothing amiss.
func (x load) loadBytes(l layout) []byte {
	cmd, _ := command.Encode(l.version, x.cmd)
	return append(cmd, attrBytes(l, x.Attr)...)
}

func attrBytes(l layout, a api.Attr) []byte {
	deps, _ := vector.Pack(l.version, a.Deps)
	return append(wire.PutUint(uint64(a.Seq)), deps...)
}
