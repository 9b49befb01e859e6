package quorum_test

import (
	"testing"

	"moot/api"
)

// ownOf are the attributes that most tests begin with, sound for n, with room below and above.
func ownOf(n int) api.Attr {
	deps := make([]int, n)
	for i := range deps {
		deps[i] = 10 + i
	}
	return at(5, deps...)
}

// unequals are attributes next to own: the Seq or one entry of Deps is another one.
func unequals(own api.Attr) []api.Attr {
	out := []api.Attr{at(own.Seq+1, own.Deps...), at(own.Seq-1, own.Deps...)}
	for i, x := range own.Deps {
		out = append(out, at(own.Seq, with(own.Deps, i, x+1)...), at(own.Seq, with(own.Deps, i, x-1)...))
	}
	return out
}

// verdicts of Fast and of Slow, by how many votes that count are equal to own, and how many are not.
func verdicts() map[[3]int]string {
	return map[[3]int]string{
		{3, 0, 0}: "WW",
		{3, 1, 0}: "FS", {3, 0, 1}: "WS",
		{3, 2, 0}: "FS", {3, 1, 1}: "FS", {3, 0, 2}: "SS",

		{5, 0, 0}: "WW",
		{5, 1, 0}: "WW", {5, 0, 1}: "WW",
		{5, 2, 0}: "WS", {5, 1, 1}: "WS", {5, 0, 2}: "SS",
		{5, 3, 0}: "FS", {5, 2, 1}: "WS", {5, 1, 2}: "SS", {5, 0, 3}: "SS",
		{5, 4, 0}: "FS", {5, 3, 1}: "FS", {5, 2, 2}: "SS", {5, 1, 3}: "SS", {5, 0, 4}: "SS",

		{7, 0, 0}: "WW",
		{7, 1, 0}: "WW", {7, 0, 1}: "WW",
		{7, 2, 0}: "WW", {7, 1, 1}: "WW", {7, 0, 2}: "WW",
		{7, 3, 0}: "WS", {7, 2, 1}: "WS", {7, 1, 2}: "SS", {7, 0, 3}: "SS",
		{7, 4, 0}: "WS", {7, 3, 1}: "WS", {7, 2, 2}: "SS", {7, 1, 3}: "SS", {7, 0, 4}: "SS",
		{7, 5, 0}: "FS", {7, 4, 1}: "WS", {7, 3, 2}: "SS", {7, 2, 3}: "SS", {7, 1, 4}: "SS", {7, 0, 5}: "SS",
		{7, 6, 0}: "FS", {7, 5, 1}: "FS", {7, 4, 2}: "SS", {7, 3, 3}: "SS", {7, 2, 4}: "SS", {7, 1, 5}: "SS", {7, 0, 6}: "SS",
	}
}

func kindOf(letter byte) int { return map[byte]int{'W': 0, 'F': 1, 'S': 2}[letter] }

// answerOf is what goes with a verdict.
func answerOf(kind int, own, joined api.Attr) api.Attr {
	return []api.Attr{{}, own, joined}[kind]
}

// Each other replica tells nothing (0), own (1) or something else (2): every such word, at every self.
func TestP12_5P12_6Words(t *testing.T) {
	d := dice(1256)
	for _, n := range sizes() {
		own, seen := ownOf(n), map[[3]int]int{}
		for self := range n {
			words(n-1, 3, func(word []int) {
				key, joined := [3]int{n}, own
				var votes []api.Vote
				for i, id := range others(n, self) {
					if word[i] == 0 {
						continue
					}
					key[word[i]]++
					a := own
					if word[i] == 2 {
						a = pick(&d, unequals(own))
						joined = wordsUnion(joined, []api.Attr{a})
					}
					votes = append(votes, reply(id, a))
				}
				d.shuffle(votes)
				want := verdicts()[key]
				seen[key]++
				fast, slow := kindOf(want[0]), kindOf(want[1])
				bothAre(t, n, self, own, votes, fast, answerOf(fast, own, joined), slow, answerOf(slow, own, joined))
			})
		}
		for key := range verdicts() {
			if key[0] == n && seen[key] == 0 {
				t.Errorf("%v was not tried", key)
			}
		}
	}
}

// One that differs in the Seq alone, or in one entry alone, is not equal.
func TestP12_5Equal(t *testing.T) {
	for _, n := range sizes() {
		own, f := ownOf(n), n/2
		for _, a := range unequals(own) {
			var votes []api.Vote
			for id := 1; id < 2*f-1; id++ {
				votes = append(votes, reply(id, own))
			}
			fastIs(t, n, 0, own, append(votes, reply(2*f-1, a)), api.Wait, api.Attr{})
			fastIs(t, n, 0, own, append(votes, reply(2*f-1, a), reply(2*f, own)), api.FastCommit, own)
			for i, b := range unequals(own) {
				if i%3 == 0 {
					fastIs(t, n, 0, own, append(votes, reply(2*f-1, a), reply(2*f, b)), api.GoSlow, wordsUnion(own, []api.Attr{a, b}))
				}
			}
		}
	}
}

// Attributes at the bounds are sound: of own, and of votes.
func TestP12_5P12_6Edges(t *testing.T) {
	for _, n := range sizes() {
		for _, own := range edges(n) {
			for _, a := range edges(n) {
				var votes []api.Vote
				for _, id := range others(n, n-1) {
					votes = append(votes, reply(id, a))
				}
				joined := wordsUnion(own, []api.Attr{a})
				if sameAttr(own, a) {
					bothAre(t, n, n-1, own, votes, api.FastCommit, own, api.GoSlow, own)
				} else {
					bothAre(t, n, n-1, own, votes, api.GoSlow, joined, api.GoSlow, joined)
				}
			}
		}
	}
}

// The union takes each greatest number, wherever it is, and own's too.
func TestP12_5P12_6Union(t *testing.T) {
	own := at(4, 1, 9, 0, 3, 0)
	votes := []api.Vote{reply(4, at(2, 7, 0, 0, 3, 1)), reply(0, at(6, 0, 8, 0, 0, 5)), reply(3, at(5, 2, 2, 2, 2, 2)), reply(1, at(0, 0, 0, 0, 0, 0))}
	bothAre(t, 5, 2, own, votes, api.GoSlow, at(6, 7, 9, 2, 3, 5), api.GoSlow, at(6, 7, 9, 2, 3, 5))
	bothAre(t, 5, 2, own, votes[:2], api.GoSlow, at(6, 7, 9, 0, 3, 5), api.GoSlow, at(6, 7, 9, 0, 3, 5))
	bothAre(t, 5, 2, own, votes[2:], api.GoSlow, at(5, 2, 9, 2, 3, 2), api.GoSlow, at(5, 2, 9, 2, 3, 2))
	bothAre(t, 5, 2, own, votes[:1], api.Wait, api.Attr{}, api.Wait, api.Attr{})
	// Own alone is the greatest; and votes that are equal to one another, not to own.
	bothAre(t, 3, 1, at(9, 9, 9, 9), []api.Vote{reply(0, at(1, 2, 3, 4)), reply(2, at(1, 2, 3, 4))}, api.GoSlow, at(9, 9, 9, 9), api.GoSlow, at(9, 9, 9, 9))
	bothAre(t, 3, 1, at(0, 0, 0, 0), []api.Vote{reply(0, at(1, 2, 3, 4)), reply(2, at(1, 2, 3, 4))}, api.GoSlow, at(1, 2, 3, 4), api.GoSlow, at(1, 2, 3, 4))
}

// votesFor are votes that would commit fast, for any n and self.
func votesFor(own api.Attr) []api.Vote {
	var out []api.Vote
	for id := -1; id < 12; id++ {
		out = append(out, reply(id, own))
	}
	return out
}

func TestP12_5P12_6OutOfBounds(t *testing.T) {
	for _, n := range noSizes() {
		for _, self := range []int{-1, 0, 1, n - 1, n} {
			for _, size := range []int{0, 3, 5, 7, min(max(n, 1), 12)} {
				own := at(1, filled(size, 0)...)
				bothAre(t, n, self, own, votesFor(own), api.Wait, api.Attr{}, api.Wait, api.Attr{})
			}
		}
	}
	for _, n := range sizes() {
		own := ownOf(n)
		for _, self := range noReplicas(n) {
			bothAre(t, n, self, own, votesFor(own), api.Wait, api.Attr{}, api.Wait, api.Attr{})
		}
		for self := range n {
			bothAre(t, n, self, own, votesFor(own), api.FastCommit, own, api.GoSlow, own)
			for _, wrong := range noAttrs(n, own) {
				bothAre(t, n, self, wrong, votesFor(own), api.Wait, api.Attr{}, api.Wait, api.Attr{})
				bothAre(t, n, self, wrong, votesFor(wrong), api.Wait, api.Attr{}, api.Wait, api.Attr{})
			}
		}
	}
}

// Each vote of nobody, of self, or of unsound attributes is passed over, alone and among others.
func TestP12_4PassedOver(t *testing.T) {
	for _, n := range sizes() {
		own, f := ownOf(n), n/2
		for _, self := range []int{0, 1, n - 1} {
			var wrong []api.Vote
			for _, from := range append(noReplicas(n), self) {
				wrong = append(wrong, reply(from, own), reply(from, at(99, own.Deps...)))
			}
			ids := others(n, self)
			for _, a := range noAttrs(n, own) {
				for _, id := range ids {
					wrong = append(wrong, reply(id, a))
				}
			}
			bothAre(t, n, self, own, wrong, api.Wait, api.Attr{}, api.Wait, api.Attr{})
			var votes []api.Vote
			for _, id := range ids[:2*f-2] {
				votes = append(votes, reply(id, own))
			}
			last := ids[2*f-2]
			slow, joined := api.GoSlow, own
			if len(votes) < f {
				slow, joined = api.Wait, api.Attr{}
			}
			for _, w := range wrong {
				bothAre(t, n, self, own, append([]api.Vote{w}, votes...), api.Wait, api.Attr{}, slow, joined)
				bothAre(t, n, self, own, append(votes[:len(votes):len(votes)], w), api.Wait, api.Attr{}, slow, joined)
				// The first one of a replica that counts may stand behind one that doesn't.
				bothAre(t, n, self, own, append(append([]api.Vote{w}, votes...), reply(last, own)), api.FastCommit, own, api.GoSlow, own)
			}
		}
	}
}

// Of one replica the first vote that counts is taken, whatever comes behind it.
func TestP12_4SecondVotes(t *testing.T) {
	own := at(1, 0, 0, 0)
	other, third := at(3, 0, 2, 0), at(2, 0, 0, 4)
	bothAre(t, 3, 0, own, []api.Vote{reply(1, own), reply(1, other)}, api.FastCommit, own, api.GoSlow, own)
	bothAre(t, 3, 0, own, []api.Vote{reply(1, other), reply(1, own)}, api.Wait, api.Attr{}, api.GoSlow, other)
	bothAre(t, 3, 0, own, []api.Vote{reply(1, other), reply(1, third), reply(1, third)}, api.Wait, api.Attr{}, api.GoSlow, other)
	bothAre(t, 3, 0, own, []api.Vote{reply(1, other), reply(2, third), reply(1, own)}, api.GoSlow, at(3, 0, 2, 4), api.GoSlow, at(3, 0, 2, 4))
	bothAre(t, 3, 0, own, []api.Vote{reply(1, other), reply(2, third), reply(2, own), reply(1, at(9, 9, 9, 9))}, api.GoSlow, at(3, 0, 2, 4), api.GoSlow, at(3, 0, 2, 4))
	for _, a := range noAttrs(3, own) {
		bothAre(t, 3, 0, own, []api.Vote{reply(1, a), reply(1, a), reply(1, own), reply(1, other)}, api.FastCommit, own, api.GoSlow, own)
		bothAre(t, 3, 0, own, []api.Vote{reply(1, a), reply(1, other), reply(1, own)}, api.Wait, api.Attr{}, api.GoSlow, other)
		bothAre(t, 3, 0, own, []api.Vote{reply(1, other), reply(1, a)}, api.Wait, api.Attr{}, api.GoSlow, other)
	}
	// One vote often is one vote.
	for _, n := range sizes() {
		own := ownOf(n)
		var votes []api.Vote
		for range 9 {
			votes = append(votes, reply(n-1, at(own.Seq+1, own.Deps...)))
		}
		if n == 3 {
			bothAre(t, n, 0, own, votes, api.Wait, api.Attr{}, api.GoSlow, at(own.Seq+1, own.Deps...))
		} else {
			bothAre(t, n, 0, own, votes, api.Wait, api.Attr{}, api.Wait, api.Attr{})
		}
	}
}

// State, Same, VBal and Cmd of a vote may be anything.
func TestP12_4NotLookedAt(t *testing.T) {
	d := dice(124)
	for _, n := range sizes() {
		own := ownOf(n)
		for range 400 {
			var votes []api.Vote
			for _, id := range others(n, 0) {
				a := own
				if d.below(3) == 0 {
					a = pick(&d, unequals(own))
				}
				v := reply(id, a)
				v.State = pick(&d, append(wild(), -1, 0, 1, 2, 3, 4))
				v.Same = d.below(2) == 0
				v.VBal = bal(pick(&d, append(wild(), 0, 1)), pick(&d, append(wild(), 0, id)))
				v.Cmd = api.Cmd{Kind: d.below(11) - 1, Client: -1, Key: "k"}
				votes = append(votes, v)
			}
			fast, a := wordsFast(n, 0, own, votes)
			slow, b := wordsSlow(n, 0, own, votes)
			bothAre(t, n, 0, own, votes, fast, a, slow, b)
		}
	}
}

// Any lists of votes, most of them with something amiss, give what the words say.
func TestP12_5P12_6Model(t *testing.T) {
	d := dice(1256)
	var seen [3][3]int
	for range 30000 {
		n := pick(&d, sizes())
		self, own := d.below(n), ownOf(n)
		switch d.below(40) {
		case 0:
			n = pick(&d, noSizes())
		case 1:
			self = pick(&d, noReplicas(n))
		case 2:
			own = pick(&d, noAttrs(n, own))
		}
		var votes []api.Vote
		for range d.below(12) {
			votes = append(votes, d.reply(n, self))
		}
		fast, a := wordsFast(n, self, own, votes)
		slow, b := wordsSlow(n, self, own, votes)
		seen[fast][slow]++
		bothAre(t, n, self, own, votes, fast, a, slow, b)
	}
	for _, pair := range [][2]int{{0, 0}, {0, 2}, {1, 2}, {2, 2}} {
		if seen[pair[0]][pair[1]] < 500 {
			t.Errorf("the verdicts %v came %d times only", pair, seen[pair[0]][pair[1]])
		}
	}
}

// reply is of own's attributes most often.
func (d *dice) reply(n, self int) api.Vote {
	size := min(max(n, 1), 9)
	own := ownOf(size)
	from := d.below(size)
	switch d.below(12) {
	case 0:
		from = pick(d, append(noReplicas(size), self))
	case 1:
		return reply(from, pick(d, noAttrs(size, own)))
	case 2, 3, 4:
		return reply(from, pick(d, unequals(own)))
	case 5:
		return reply(from, pick(d, edges(size)))
	}
	return reply(from, own)
}

// The chapter's examples.
func TestExamplesOfFast(t *testing.T) {
	own := at(1, 0, 0, 0)
	one, two := reply(1, at(3, 0, 2, 0)), reply(2, at(2, 0, 0, 4))
	bothAre(t, 3, 0, own, nil, api.Wait, api.Attr{}, api.Wait, api.Attr{})
	fastIs(t, 3, 0, own, []api.Vote{reply(1, own)}, api.FastCommit, own)
	bothAre(t, 3, 0, own, []api.Vote{one}, api.Wait, api.Attr{}, api.GoSlow, at(3, 0, 2, 0))
	fastIs(t, 3, 0, own, []api.Vote{one, two}, api.GoSlow, at(3, 0, 2, 4))
	fastIs(t, 3, 0, own, []api.Vote{one, reply(2, own)}, api.FastCommit, own)
	bothAre(t, 3, 0, own, []api.Vote{reply(0, own), one, reply(1, own)}, api.Wait, api.Attr{}, api.GoSlow, at(3, 0, 2, 0))
}
