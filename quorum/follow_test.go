package quorum_test

import (
	"testing"

	"moot/api"
	"moot/quorum"
)

// What follows from the rules.

// subsets hands every choice of just so many of the votes to a function.
func subsets(votes []api.Vote, size int, do func([]api.Vote)) {
	for mask := range 1 << len(votes) {
		var chosen []api.Vote
		for i, v := range votes {
			if mask>>i&1 == 1 {
				chosen = append(chosen, v)
			}
		}
		if len(chosen) == size {
			do(chosen)
		}
	}
}

// What may have been committed fast is found again by any F + 1 without the owner.
func TestP12_8FastIsFoundAgain(t *testing.T) {
	for _, n := range sizes() {
		f := n / 2
		for row := range n {
			own, c := ownOf(n), cmdOf(row)
			same := func(id int) api.Vote {
				return api.Vote{From: id, State: 1, Same: true, VBal: bal(0, row), Cmd: c, Seq: own.Seq, Deps: own.Deps}
			}
			for left := range n {
				if left == row {
					continue
				}
				unlike := pre(n, left, bal(0, row))
				unlike.Cmd = c
				for _, last := range []api.Vote{same(left), unlike, none(left)} {
					votes := []api.Vote{last}
					for _, id := range others(n, row) {
						if id != left {
							votes = append(votes, same(id))
						}
					}
					if k, a := quorum.Fast(n, row, own, votes[1:]); k != api.FastCommit || !sameAttr(a, own) {
						t.Fatalf("Fast = %d, %v", k, a)
					}
					for size := f + 1; size <= 2*f; size++ {
						subsets(votes, size, func(chosen []api.Vote) {
							planIs(t, n, row, chosen, api.Plan{Kind: api.PlanAccept, Cmd: c, Seq: own.Seq, Deps: own.Deps})
						})
					}
				}
			}
		}
	}
}

// What F + 1 have accepted is found again by any F + 1, the owner among them or not.
func TestP12_8AcceptedIsFoundAgain(t *testing.T) {
	d := dice(1289)
	for _, n := range sizes() {
		f := n / 2
		for range 100 {
			row, b := d.below(n), bal(1+d.below(3), d.below(n))
			a := attrFrom(n, row)
			var votes []api.Vote
			for id := range n {
				v := api.Vote{From: id, State: 2, VBal: b, Cmd: cmdOf(row), Seq: a.Seq, Deps: a.Deps}
				if id > f {
					v = pick(&d, []api.Vote{none(id), preSame(n, id, bal(0, row)), pre(n, id, bal(b.Round, -1)), pre(n, id, b), acc(n, id, bal(b.Round-1, 6)), v})
				} else if d.below(3) == 0 {
					v.VBal = bal(b.Round+1+d.below(2), d.below(n))
				}
				votes = append(votes, v)
			}
			for i := range votes { // who has accepted doesn't hang on its number
				j := d.below(i + 1)
				votes[i].From, votes[j].From = votes[j].From, votes[i].From
			}
			for size := f + 1; size <= n; size++ {
				subsets(votes, size, func(chosen []api.Vote) {
					planIs(t, n, row, chosen, api.Plan{Kind: api.PlanAccept, Cmd: cmdOf(row), Seq: a.Seq, Deps: a.Deps})
				})
			}
		}
	}
}

// PlanNoop comes only where F + 1 have not voted at all: one that has is never lost.
func TestP12_8NoVoteIsLost(t *testing.T) {
	for _, n := range sizes() {
		for row := range n {
			for id := range n {
				for _, v := range kinds(n, id, row)[2:10] {
					votes := []api.Vote{v}
					for _, other := range others(n, id) {
						votes = append(votes, none(other))
					}
					for size := n/2 + 1; size <= n; size++ {
						subsets(votes, size, func(chosen []api.Vote) {
							p := quorum.Prepared(n, row, chosen)
							if voted := chosen[0].State > 0; (p.Kind == api.PlanNoop) == voted || voted && p.Cmd != cmdOf(id) {
								t.Fatalf("Prepared(%d, %d, %+v) = %+v", n, row, chosen, p)
							}
						})
					}
				}
			}
		}
	}
}
