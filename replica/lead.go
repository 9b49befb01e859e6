package replica

import (
	"slices"

	"moot/api"
	"moot/quorum"
)

// lead is how this replica tries to bring an instance to an end: what lies behind it is one of the three phases.
type lead interface {
	instance() api.Inst
	ballot() api.Ballot
	phase() int
	count() int                     // how many replies count
	silent() []int                  // from whom none does, rising
	heard(from int, m api.Msg) bool // whether a reply counts
	reply() int                     // the kind of message that replies to it
	question() api.Msg              // what it asks all others
	next() step                     // what the replies bring about
	late() step                     // what they bring about when no more is waited for
}

// The kinds of steps.
const (
	stay = iota
	toCommit
	toAccept
	toPreAccept
)

// step is where a lead goes on to, and with what.
type step struct {
	kind int
	cmd  api.Cmd
	attr api.Attr
}

// common is what all three phases have.
type common struct {
	n, id   int
	inst    api.Inst
	bal     api.Ballot
	cmd     api.Cmd
	attr    api.Attr
	replies *quorum.Tally[api.Vote]
}

func newCommon(r *Replica, x api.Inst, b api.Ballot, c api.Cmd, a api.Attr) common {
	return common{n: r.n, id: r.id, inst: x, bal: b, cmd: c, attr: a, replies: quorum.NewTally[api.Vote](r.n, r.id)}
}

func (c *common) instance() api.Inst { return c.inst }

func (c *common) ballot() api.Ballot { return c.bal }

func (c *common) count() int { return c.replies.Count() }

func (c *common) silent() []int {
	var out []int
	for id := range c.n {
		if _, ok := c.replies.Get(id); !ok && id != c.id {
			out = append(out, id)
		}
	}
	return out
}

func (c *common) heard(from int, m api.Msg) bool {
	return c.replies.Add(from, api.Vote{From: from, State: m.State, Same: m.Same, VBal: m.VBal, Cmd: m.Cmd, Seq: m.Seq, Deps: slices.Clone(m.Deps)})
}

// late: with as many replies as it takes these phases have gone on already.
func (c *common) late() step { return step{} }

// votes are the replies that count, by rising ids.
func (c *common) votes() []api.Vote {
	var out []api.Vote
	for _, id := range c.replies.From() {
		v, _ := c.replies.Get(id)
		out = append(out, v)
	}
	return out
}

// ask is a question of the phases that have a command.
func (c *common) ask(kind int) api.Msg {
	return api.Msg{Kind: kind, Inst: c.inst, Bal: c.bal, Cmd: c.cmd, Seq: c.attr.Seq, Deps: c.attr.Deps}
}

// preAccepting gathers what the command must wait for.
type preAccepting struct{ common }

func (p *preAccepting) phase() int { return api.LeadPreAccept }

func (p *preAccepting) reply() int { return api.MsgPreAcceptOK }

func (p *preAccepting) question() api.Msg { return p.ask(api.MsgPreAccept) }

func (p *preAccepting) next() step {
	if p.bal.Round > 0 {
		return p.late() // there is no fast way
	}
	return p.decided(quorum.Fast(p.n, p.id, p.attr, p.votes()))
}

func (p *preAccepting) late() step {
	return p.decided(quorum.Slow(p.n, p.id, p.attr, p.votes()))
}

func (p *preAccepting) decided(verdict int, a api.Attr) step {
	switch verdict {
	case api.FastCommit:
		return step{toCommit, p.cmd, a}
	case api.GoSlow:
		return step{toAccept, p.cmd, a}
	}
	return step{}
}

// accepting makes a majority keep a command with its attributes.
type accepting struct{ common }

func (a *accepting) phase() int { return api.LeadAccept }

func (a *accepting) reply() int { return api.MsgAcceptOK }

func (a *accepting) question() api.Msg { return a.ask(api.MsgAccept) }

func (a *accepting) next() step {
	if a.count() < a.n/2 {
		return step{}
	}
	return step{toCommit, a.cmd, a.attr}
}

// preparing asks what has been voted for.
type preparing struct {
	common
	own api.Vote
}

// ownVote is what this replica itself has to tell of an instance.
func ownVote(id int, s api.Slot) api.Vote {
	return api.Vote{From: id, State: s.State, Same: s.Same, VBal: s.VBal, Cmd: s.Cmd, Seq: s.Seq, Deps: s.Deps}
}

func (p *preparing) phase() int { return api.LeadPrepare }

func (p *preparing) reply() int { return api.MsgPrepareOK }

func (p *preparing) question() api.Msg {
	return api.Msg{Kind: api.MsgPrepare, Inst: p.inst, Bal: p.bal}
}

func (p *preparing) next() step {
	plan := quorum.Prepared(p.n, p.inst.Row, append(p.votes(), p.own))
	switch plan.Kind {
	case api.PlanNoop:
		return step{kind: toAccept, attr: api.Attr{Deps: make([]int, p.n)}}
	case api.PlanAccept:
		return step{toAccept, plan.Cmd, api.Attr{Seq: plan.Seq, Deps: plan.Deps}}
	case api.PlanAnew:
		return step{kind: toPreAccept, cmd: plan.Cmd}
	}
	return step{}
}
