package quorum

import (
	"cmp"
	"slices"

	"moot/api"
	"moot/vector"
)

// gather tallies what read makes of each vote; where read says false, the vote doesn't count.
func gather[T any](n, self int, votes []api.Vote, read func(n int, v api.Vote) (T, bool)) *Tally[T] {
	t := newTally[T](n, self)
	for _, v := range votes {
		if told, ok := read(n, v); ok {
			t.Add(v.From, told)
		}
	}
	return t
}

// attrOf is all that Fast and Slow look at in a vote.
func attrOf(n int, v api.Vote) (api.Attr, bool) {
	a := api.Attr{Seq: v.Seq, Deps: v.Deps}
	return a, isSound(n, a)
}

// voteOf is the vote as a whole, for Prepared: of one who has not voted the attributes may be anything.
func voteOf(n int, v api.Vote) (api.Vote, bool) {
	if hasVoted(v) {
		_, ok := attrOf(n, v)
		return v, ok
	}
	return v, v.State == api.StateNone
}

func isSound(n int, a api.Attr) bool {
	// What is no vector doesn't even cover itself.
	return 0 <= a.Seq && a.Seq <= api.MaxSeq && len(a.Deps) == n && vector.Covers(a.Deps, a.Deps)
}

func countEqual(told []api.Attr, own api.Attr) int {
	count := 0
	for _, a := range told {
		if a.Seq == own.Seq && slices.Equal(a.Deps, own.Deps) {
			count++
		}
	}
	return count
}

// union joins sound attributes.
func union(own api.Attr, told []api.Attr) api.Attr {
	seq, deps := own.Seq, [][]int{own.Deps}
	for _, a := range told {
		seq, deps = max(seq, a.Seq), append(deps, a.Deps)
	}
	joined, _ := vector.Union(deps...)
	return api.Attr{Seq: seq, Deps: joined}
}

func hasVoted(v api.Vote) bool {
	return v.State == api.StatePreAccepted || v.State == api.StateAccepted
}

func isAccepted(v api.Vote) bool { return v.State == api.StateAccepted }

func isSame(v api.Vote) bool { return v.Same }

// only are the votes that are wanted, in their order.
func only(votes []api.Vote, wanted func(api.Vote) bool) []api.Vote {
	var out []api.Vote
	for _, v := range votes {
		if wanted(v) {
			out = append(out, v)
		}
	}
	return out
}

// highest are those who have voted at the greatest ballot of all, in their order.
func highest(told []api.Vote) []api.Vote {
	voted := only(told, hasVoted)
	if len(voted) == 0 {
		return nil
	}
	top := slices.MaxFunc(voted, byBallot).VBal
	return only(voted, func(v api.Vote) bool { return v.VBal == top })
}

func byBallot(a, b api.Vote) int {
	return cmp.Or(cmp.Compare(a.VBal.Round, b.VBal.Round), cmp.Compare(a.VBal.Who, b.VBal.Who))
}
