package quorum_test

import (
	"fmt"
	"slices"
	"testing"

	"moot/api"
)

// cmdOf is a command that tells whose vote it was in.
func cmdOf(from int) api.Cmd {
	return api.Cmd{Kind: api.Put, Client: 7, Req: from + 1, Key: "k", Val: fmt.Sprint("of ", from)}
}

// attrFrom are attributes that tell whose vote they were in.
func attrFrom(n, from int) api.Attr { return at(100+from, with(filled(n, 1), from%n, 50+from)...) }

func none(from int) api.Vote { return api.Vote{From: from} }

// told is a vote with a command and attributes of its own.
func told(n, from, state int, same bool, b api.Ballot) api.Vote {
	a := attrFrom(n, from)
	return api.Vote{From: from, State: state, Same: same, VBal: b, Cmd: cmdOf(from), Seq: a.Seq, Deps: a.Deps}
}

func pre(n, from int, b api.Ballot) api.Vote { return told(n, from, 1, false, b) }

func preSame(n, from int, b api.Ballot) api.Vote { return told(n, from, 1, true, b) }

func acc(n, from int, b api.Ballot) api.Vote { return told(n, from, 2, false, b) }

func noop() api.Plan { return api.Plan{Kind: api.PlanNoop} }

// take is the plan to accept what the replica from has voted for.
func take(n, from int) api.Plan {
	a := attrFrom(n, from)
	return api.Plan{Kind: api.PlanAccept, Cmd: cmdOf(from), Seq: a.Seq, Deps: a.Deps}
}

func anew(from int) api.Plan { return api.Plan{Kind: api.PlanAnew, Cmd: cmdOf(from)} }

// plans holds a list of votes, in every order if it is short and in some if it is long, against one plan.
func plans(t *testing.T, n, row int, votes []api.Vote, want api.Plan) {
	t.Helper()
	votes = slices.Clone(votes)
	if len(votes) <= 5 {
		permutations(votes, 0, func(votes []api.Vote) { planIs(t, n, row, votes, want) })
		return
	}
	d := dice(len(votes))
	for range 60 {
		planIs(t, n, row, votes, want)
		d.shuffle(votes)
	}
}

func TestP12_8OutOfBounds(t *testing.T) {
	full := func(n int) [][]api.Vote {
		var blank, voted []api.Vote
		for id := -1; id < 9; id++ {
			blank, voted = append(blank, none(id)), append(voted, acc(min(max(n, 1), 9), max(id, 0), bal(1, 0)))
		}
		return [][]api.Vote{blank, voted, nil}
	}
	for _, n := range noSizes() {
		for _, row := range []int{-1, 0, 1, n - 1, n} {
			for _, votes := range full(n) {
				planIs(t, n, row, votes, api.Plan{})
			}
		}
	}
	for _, n := range sizes() {
		for _, row := range noReplicas(n) {
			for _, votes := range full(n) {
				planIs(t, n, row, votes, api.Plan{})
			}
		}
		for row := range n {
			planIs(t, n, row, full(n)[0], noop())
			planIs(t, n, row, full(n)[1], take(n, 0))
		}
	}
}

// F votes are too few, F + 1 are enough, for each rule.
func TestP12_8Majority(t *testing.T) {
	for _, n := range sizes() {
		f := n / 2
		for row := range n {
			first := bal(0, row)
			for _, c := range []struct {
				make func(id int) api.Vote
				want func(least int) api.Plan
			}{
				{none, func(int) api.Plan { return noop() }},
				{func(id int) api.Vote { return acc(n, id, bal(1, 0)) }, func(least int) api.Plan { return take(n, least) }},
				{func(id int) api.Vote { return preSame(n, id, first) }, func(least int) api.Plan { return take(n, least) }},
				{func(id int) api.Vote { return pre(n, id, first) }, func(least int) api.Plan { return anew(least) }},
				{func(id int) api.Vote { return pre(n, id, bal(1, 0)) }, func(least int) api.Plan { return anew(least) }},
			} {
				ids := others(n, row)
				for k := 0; k <= f; k++ {
					var votes []api.Vote
					for _, id := range ids[:k] {
						votes = append(votes, c.make(id))
					}
					plans(t, n, row, votes, api.Plan{})
				}
				for k := f + 1; k < n; k++ {
					var votes []api.Vote
					for _, id := range ids[n-1-k:] {
						votes = append(votes, c.make(id))
					}
					plans(t, n, row, votes, c.want(ids[n-1-k]))
				}
			}
		}
	}
}

// countsIs puts a vote beside F others that count: a plan other than PlanWait shows that it counts.
func countsIs(t *testing.T, n int, v api.Vote, want bool) {
	t.Helper()
	f := n / 2
	var rest []api.Vote
	for id := n - f; id < n; id++ {
		rest = append(rest, none(id))
	}
	if !want {
		plans(t, n, 0, append([]api.Vote{v}, rest...), api.Plan{})
		planIs(t, n, 0, append([]api.Vote{v}, append(rest, none(0))...), noop())
		return
	}
	switch v.State {
	case 0:
		plans(t, n, 0, append(rest, v), noop())
	case 1:
		plans(t, n, 0, append(rest, v), api.Plan{Kind: api.PlanAnew, Cmd: v.Cmd})
	default:
		plans(t, n, 0, append(rest, v), api.Plan{Kind: api.PlanAccept, Cmd: v.Cmd, Seq: v.Seq, Deps: v.Deps})
	}
}

func TestP12_7Froms(t *testing.T) {
	for _, n := range sizes() {
		for state := range 3 {
			for _, from := range noReplicas(n) {
				v := told(n, 0, state, false, bal(1, 0))
				v.From = from
				countsIs(t, n, v, false)
			}
			for from := range n - n/2 {
				countsIs(t, n, told(n, from, state, false, bal(1, 0)), true)
			}
		}
	}
}

func TestP12_7States(t *testing.T) {
	for _, n := range sizes() {
		for _, state := range append(wild(), -2, -1, 3, 4, 5, 1<<8+1, 1<<8+2, 1<<16+1, 1<<32+1, 1<<32+2) {
			countsIs(t, n, told(n, 0, state, false, bal(1, 0)), false)
			countsIs(t, n, api.Vote{From: 0, State: state}, false)
		}
		for state := range 3 {
			countsIs(t, n, told(n, 0, state, false, bal(1, 0)), true)
		}
	}
}

// Unsound attributes keep a vote of State 1 or 2 from counting, and none of State 0.
func TestP12_7Attributes(t *testing.T) {
	for _, n := range sizes() {
		for _, a := range noAttrs(n, attrFrom(n, 0)) {
			for state := range 3 {
				v := told(n, 0, state, false, bal(1, 0))
				v.Seq, v.Deps = a.Seq, a.Deps
				countsIs(t, n, v, state == 0)
			}
		}
		for _, a := range edges(n) {
			for state := range 3 {
				v := told(n, 0, state, false, bal(1, 0))
				v.Seq, v.Deps = a.Seq, a.Deps
				countsIs(t, n, v, true)
			}
		}
	}
}

// A vote of State 0 has nothing but its From, whatever stands in it.
func TestP12_7NoneWithFields(t *testing.T) {
	for _, n := range sizes() {
		f := n / 2
		for row := range n {
			var votes []api.Vote
			for id := range f + 1 {
				v := preSame(n, id, bal(9, 1))
				v.State = 0
				votes = append(votes, v)
			}
			plans(t, n, row, votes, noop())
			plans(t, n, row, append(votes[:f:f], pre(n, n-1, bal(0, row))), anew(n-1))
		}
	}
}

// Of one From the first vote that counts is taken, whatever stands ahead of it and behind it.
func TestP12_7SecondVotes(t *testing.T) {
	for _, n := range sizes() {
		f := n / 2
		var rest []api.Vote
		for id := n - f; id < n; id++ {
			rest = append(rest, none(id))
		}
		ahead := []api.Vote{told(n, 0, 3, true, bal(9, 9)), told(n, 0, -1, true, bal(9, 9))}
		for _, a := range noAttrs(n, attrFrom(n, 0)) {
			for state := 1; state <= 2; state++ {
				ahead = append(ahead, api.Vote{From: 0, State: state, VBal: bal(9, 9), Cmd: cmdOf(5), Seq: a.Seq, Deps: a.Deps})
			}
		}
		kinds := []api.Vote{none(0), pre(n, 0, bal(1, 0)), acc(n, 0, bal(1, 0)), preSame(n, 0, bal(0, 1))}
		wanted := []api.Plan{noop(), anew(0), take(n, 0), anew(0)}
		for i, first := range kinds {
			for _, second := range append(kinds, ahead...) {
				planIs(t, n, 1, append([]api.Vote{first, second}, rest...), planOf(n, first, wanted[i]))
				planIs(t, n, 1, append(append([]api.Vote{first}, rest...), second), planOf(n, first, wanted[i]))
			}
			for _, v := range ahead {
				planIs(t, n, 1, append([]api.Vote{v, v, first}, rest...), planOf(n, first, wanted[i]))
				planIs(t, n, 1, append([]api.Vote{v, first, v}, rest...), planOf(n, first, wanted[i]))
				planIs(t, n, 1, append(append([]api.Vote{v}, rest...), first, v), planOf(n, first, wanted[i]))
			}
		}
		// One vote often is one vote.
		for _, v := range kinds {
			planIs(t, n, 1, append([]api.Vote{v, v, v, v, v}, rest[1:]...), api.Plan{})
		}
	}
}

// planOf: among three replicas one Same vote without the owner is F already.
func planOf(n int, first api.Vote, want api.Plan) api.Plan {
	if n == 3 && first.Same {
		return take(n, first.From)
	}
	return want
}

// The greatest ballot of all who have voted decides, by Round, then Who; how far they lie apart is all the same.
func TestP12_8Ballots(t *testing.T) {
	rising := []api.Ballot{bal(-1<<63, -1<<63), bal(-1<<63, 1<<63-1), bal(-2, 9), bal(-1, -1), bal(-1, 0), bal(0, -1), bal(0, 0), bal(0, 1), bal(0, 2), bal(0, 6), bal(1, 0), bal(1, 1), bal(1, 2), bal(2, 0), bal(2, 1), bal(255, 0), bal(256, 0), bal(65535, 0), bal(65535, 2), bal(65536, 0), bal(1<<32, 0), bal(1<<63-1, -1<<63), bal(1<<63-1, 1<<63-1)}
	for i, low := range rising {
		for _, high := range rising[i+1:] {
			plans(t, 5, 4, []api.Vote{pre(5, 1, low), pre(5, 2, high), none(3)}, anew(2))
			plans(t, 5, 4, []api.Vote{pre(5, 2, low), pre(5, 1, high), none(3)}, anew(1))
			plans(t, 5, 4, []api.Vote{acc(5, 1, low), pre(5, 2, high), none(3)}, anew(2))
			plans(t, 5, 4, []api.Vote{pre(5, 1, low), acc(5, 2, high), none(3)}, take(5, 2))
			plans(t, 5, 4, []api.Vote{acc(5, 1, low), acc(5, 2, high), none(3)}, take(5, 2))
			plans(t, 5, 4, []api.Vote{acc(5, 2, low), acc(5, 1, high), acc(5, 0, low)}, take(5, 1))
			plans(t, 5, 4, []api.Vote{pre(5, 0, low), pre(5, 1, high), pre(5, 2, high), acc(5, 3, low)}, anew(1))
		}
		plans(t, 5, 4, []api.Vote{pre(5, 3, low), pre(5, 1, low), none(2)}, anew(1))
		plans(t, 5, 4, []api.Vote{pre(5, 1, low), acc(5, 3, low), acc(5, 2, low)}, take(5, 2))
	}
}

// One of State 2 at the greatest ballot is taken, be the others there what they may.
func TestP12_8Accepted(t *testing.T) {
	for _, n := range sizes() {
		for row := range n {
			for _, b := range []api.Ballot{bal(0, row), bal(0, (row+1)%n), bal(1, row), bal(7, 2)} {
				for from := range n {
					votes := []api.Vote{acc(n, from, b)}
					for _, id := range others(n, from) {
						votes = append(votes, preSame(n, id, b))
					}
					plans(t, n, row, votes, take(n, from))
					votes[0].Same = true
					plans(t, n, row, votes, take(n, from))
				}
			}
		}
	}
	// The least From of these, not of all in H, nor of all who have accepted.
	plans(t, 7, 6, []api.Vote{pre(7, 1, bal(2, 0)), acc(7, 5, bal(2, 0)), acc(7, 3, bal(2, 0)), acc(7, 0, bal(1, 6)), none(2)}, take(7, 3))
	// A noop that was accepted is taken as it is.
	zero := api.Vote{From: 2, State: 2, VBal: bal(1, 1), Deps: filled(5, 0)}
	plans(t, 5, 0, []api.Vote{pre(5, 1, bal(0, 0)), zero, none(3)}, api.Plan{Kind: api.PlanAccept, Deps: filled(5, 0)})
	// What is in Cmd isn't looked at.
	odd := acc(5, 2, bal(1, 1))
	odd.Cmd = api.Cmd{Kind: -7, Client: -1, Key2: "no command"}
	plans(t, 5, 0, []api.Vote{pre(5, 1, bal(0, 0)), odd, none(3)}, api.Plan{Kind: api.PlanAccept, Cmd: odd.Cmd, Seq: odd.Seq, Deps: odd.Deps})
	odd.State = 1
	plans(t, 5, 0, []api.Vote{pre(5, 1, bal(0, 0)), odd, none(3)}, api.Plan{Kind: api.PlanAnew, Cmd: odd.Cmd})
}

// F that are Same at the first ballot are enough, F - 1 are not, and no others make up for it.
func TestP12_8Same(t *testing.T) {
	for _, n := range sizes() {
		f := n / 2
		for row := range n {
			first, ids := bal(0, row), others(n, row)
			for count := 0; count <= 2*f; count++ {
				for _, fill := range []func(id int) api.Vote{none, func(id int) api.Vote { return pre(n, id, first) }, func(id int) api.Vote { return preSame(n, id, bal(0, row-1)) }} {
					var votes []api.Vote
					for i, id := range ids {
						if i >= len(ids)-count {
							votes = append(votes, preSame(n, id, first))
						} else {
							votes = append(votes, fill(id))
						}
					}
					plans(t, n, row, votes, sameWanted(n, row, votes, count))
				}
			}
		}
	}
}

// sameWanted is the plan of votes of which the last ones, so many, are Same at the first ballot.
func sameWanted(n, row int, votes []api.Vote, count int) api.Plan {
	ids := others(n, row)
	if count >= n/2 {
		return take(n, ids[len(ids)-count])
	}
	if votes[0].State == 0 && count == 0 {
		return noop()
	}
	if votes[0].State == 1 && (votes[0].VBal == bal(0, row) || count == 0) {
		return anew(ids[0])
	}
	return anew(ids[len(ids)-count])
}

// A vote that counts and is From row, be it what it may, keeps the Same ones from being taken; one that doesn't count does not.
func TestP12_8OwnerTells(t *testing.T) {
	for _, n := range sizes() {
		f := n / 2
		for row := range n {
			first, ids := bal(0, row), others(n, row)
			var votes []api.Vote
			for _, id := range ids[:f+1] {
				votes = append(votes, preSame(n, id, first))
			}
			least := min(ids[0], row)
			plans(t, n, row, votes, take(n, ids[0]))
			plans(t, n, row, append(votes, none(row)), anew(ids[0]))
			plans(t, n, row, append(votes, preSame(n, row, first)), anew(least))
			plans(t, n, row, append(votes, pre(n, row, first)), anew(least))
			plans(t, n, row, append(votes, pre(n, row, bal(-1, 0))), anew(ids[0]))
			plans(t, n, row, append(votes, acc(n, row, bal(-1, 0))), anew(ids[0]))
			plans(t, n, row, append(votes, acc(n, row, first)), take(n, row))
			plans(t, n, row, append(votes, told(n, row, 3, true, first)), take(n, ids[0]))
			unsound := preSame(n, row, first)
			unsound.Seq = -1
			plans(t, n, row, append(votes, unsound), take(n, ids[0]))
			unsound.Seq, unsound.State = topSeq+1, 0
			plans(t, n, row, append(votes, unsound), anew(ids[0]))
		}
	}
}

// Only at {0, row} does Same say anything.
func TestP12_8SameElsewhere(t *testing.T) {
	for _, n := range sizes() {
		for row := range n {
			ids := others(n, row)
			for _, b := range []api.Ballot{bal(1, row), bal(-1, row), bal(65535, row), bal(1<<32, row), bal(0, (row+1)%n), bal(0, n), bal(0, -1), bal(0, row+1<<32), bal(2, ids[0])} {
				var votes []api.Vote
				for _, id := range ids {
					votes = append(votes, preSame(n, id, b))
				}
				plans(t, n, row, votes, anew(ids[0]))
			}
			// One vote at a later ballot, and those at the first one say nothing any more.
			votes := []api.Vote{pre(n, ids[len(ids)-1], bal(1, 0))}
			for _, id := range ids[:len(ids)-1] {
				votes = append(votes, preSame(n, id, bal(0, row)))
			}
			plans(t, n, row, votes, anew(ids[len(ids)-1]))
		}
	}
}

// The alphabet of votes from which all short lists are made.
func kinds(n, id, row int) []api.Vote {
	return []api.Vote{
		{From: -1}, // as if it had told nothing
		none(id),
		preSame(n, id, bal(0, row)),
		pre(n, id, bal(0, row)),
		acc(n, id, bal(0, row)),
		preSame(n, id, bal(1, row)),
		pre(n, id, bal(1, 0)),
		acc(n, id, bal(1, 0)),
		pre(n, id, bal(1, n-1)),
		acc(n, id, bal(1, n-1)),
		told(n, id, 3, true, bal(9, 0)),
	}
}

// Each replica votes in every way of the alphabet (of its beginning, where n is great).
func TestP12_8Words(t *testing.T) {
	for n, k := range map[int]int{3: 11, 5: 6, 7: 4} {
		var seen [4]int
		for row := range n {
			var ways [][]api.Vote
			for id := range n {
				ways = append(ways, kinds(n, id, row))
			}
			words(n, k, func(word []int) {
				var votes []api.Vote
				for id, i := range word {
					votes = append(votes, ways[id][i])
				}
				want := wordsPlan(n, row, votes)
				seen[want.Kind]++
				planIs(t, n, row, votes, want)
			})
		}
		for kind, count := range seen {
			if count == 0 {
				t.Errorf("n %d: a plan of the kind %d never came", n, kind)
			}
		}
	}
}

// Any lists of votes, many with something amiss, give what the words say.
func TestP12_8Model(t *testing.T) {
	d := dice(128)
	var seen [4]int
	for range 30000 {
		n := pick(&d, sizes())
		row := d.below(n)
		var votes []api.Vote
		for range d.below(14) {
			votes = append(votes, d.vote(n, row))
		}
		switch d.below(40) {
		case 0:
			n = pick(&d, noSizes())
		case 1:
			row = pick(&d, noReplicas(n))
		}
		want := wordsPlan(n, row, votes)
		seen[want.Kind]++
		planIs(t, n, row, votes, want)
	}
	for kind, count := range seen {
		if count < 200 {
			t.Errorf("a plan of the kind %d came %d times only", kind, count)
		}
	}
}

func (d *dice) vote(n, row int) api.Vote {
	id := d.below(n)
	switch d.below(10) {
	case 0:
		v := pre(n, id, bal(3, 0))
		v.From = pick(d, noReplicas(n))
		return v
	case 1:
		a := pick(d, noAttrs(n, attrFrom(n, id)))
		return api.Vote{From: id, State: d.below(3), Same: true, VBal: bal(d.below(3), row), Cmd: cmdOf(id), Seq: a.Seq, Deps: a.Deps}
	case 2, 3, 4:
		return preSame(n, id, bal(0, row))
	case 5, 6:
		return none(id)
	}
	return pick(d, kinds(n, id, row))
}

// The chapter's examples.
func TestExamplesOfPrepared(t *testing.T) {
	c, own := cmdOf(9), vec(0, 1, 0, 0, 0)
	same := func(from int) api.Vote {
		return api.Vote{From: from, State: 1, Same: true, Cmd: c, Seq: 2, Deps: own}
	}
	unlike := api.Vote{From: 2, State: 1, Cmd: c, Seq: 3, Deps: vec(0, 1, 4, 0, 0)}
	plans(t, 5, 0, []api.Vote{none(1), none(2), none(3)}, noop())
	plans(t, 5, 0, []api.Vote{same(1), same(2), none(3)}, api.Plan{Kind: api.PlanAccept, Cmd: c, Seq: 2, Deps: own})
	plans(t, 5, 0, []api.Vote{same(1), same(2), same(0)}, api.Plan{Kind: api.PlanAnew, Cmd: c})
	plans(t, 5, 0, []api.Vote{same(1), unlike, none(3)}, api.Plan{Kind: api.PlanAnew, Cmd: c})
	plans(t, 5, 0, []api.Vote{acc(5, 1, bal(1, 3)), pre(5, 2, bal(2, 4)), none(3)}, anew(2))
	plans(t, 5, 0, []api.Vote{pre(5, 1, bal(1, 3)), acc(5, 2, bal(1, 3)), none(3)}, take(5, 2))
	plans(t, 5, 0, []api.Vote{acc(5, 1, bal(1, 3)), pre(5, 2, bal(2, 4))}, api.Plan{})
}
