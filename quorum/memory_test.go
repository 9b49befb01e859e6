package quorum_test

import (
	"reflect"
	"slices"
	"testing"

	"moot/api"
	"moot/quorum"
)

// spoil writes x over a list and its spare room.
func spoil[T any](list []T, x T) {
	list = list[:cap(list)]
	for i := range list {
		list[i] = x
	}
}

// apart writes every list full with a mark of its own, spare room and all: where two share memory a mark is lost.
func apart(t *testing.T, lists [][]int) {
	t.Helper()
	for i, l := range lists {
		spoil(l, -1-i)
	}
	for i, l := range lists {
		for _, x := range l[:cap(l)] {
			if x != -1-i {
				t.Fatalf("list %d shares memory with another", i)
			}
		}
	}
}

// room is a copy of a list with much spare room, and the whole that it is cut out of.
func room[T any](list []T, mark T) (cut, whole []T) {
	whole = append([]T{mark}, list...)
	for range 20 {
		whole = append(whole, mark)
	}
	return whole[1 : 1+len(list)], whole
}

// given is all that one call of Fast, Slow or Prepared is handed, with spare room around every list.
type given struct {
	own   api.Attr
	votes []api.Vote
	all   []api.Vote
	lists [][]int // each with its spare room
}

func give(own api.Attr, votes []api.Vote) given {
	g := given{own: own}
	var whole []int
	g.own.Deps, whole = room(own.Deps, 77)
	g.lists = append(g.lists, whole)
	var inner []api.Vote
	for _, v := range votes {
		v.Deps, whole = room(v.Deps, 77)
		inner, g.lists = append(inner, v), append(g.lists, whole)
	}
	g.votes, g.all = room(inner, reply(1, at(77, filled(len(own.Deps), 77)...)))
	return g
}

// copied is how it stands now.
func (g given) copied() ([]api.Vote, [][]int) {
	var lists [][]int
	for _, l := range g.lists {
		lists = append(lists, slices.Clone(l))
	}
	votes := slices.Clone(g.all)
	for i := range votes {
		votes[i].Deps = slices.Clone(votes[i].Deps)
	}
	return votes, lists
}

// calls are the three decisions, each as the list that it answers and the answer's rest.
func (g given) calls(n, id int) ([][]int, []any) {
	k, a := quorum.Fast(n, id, g.own, g.votes)
	l, b := quorum.Slow(n, id, g.own, g.votes)
	p := quorum.Prepared(n, id, g.votes)
	return [][]int{a.Deps, b.Deps, p.Deps}, []any{k, a.Seq, l, b.Seq, p.Kind, p.Cmd, p.Seq}
}

// casesOf are lists of votes that lead to every verdict and plan among n.
func casesOf(n int) [][]api.Vote {
	own := ownOf(n)
	d := dice(n)
	out := [][]api.Vote{nil}
	var equal, other, blank, voted, same, mixed []api.Vote
	for id := range n {
		equal = append(equal, reply(id, own))
		other = append(other, reply(id, pick(&d, unequals(own))))
		blank = append(blank, none(id))
		voted = append(voted, acc(n, id, bal(1, 0)))
		mixed = append(mixed, acc(n, id, bal(id%2, 0)), pre(n, id, bal(2, 0)))
		if id != 0 {
			same = append(same, preSame(n, id, bal(0, 0)))
		}
	}
	wrong := []api.Vote{reply(-1, own), reply(n, own), {From: 1, State: 1}, reply(1, at(-1, own.Deps...)), {From: 2, State: 3}}
	out = append(out, equal, other, equal[:2], other[:2], blank, voted, same, mixed, wrong, append(wrong, mixed...))
	return out
}

// What is handed in is left as it was, spare room too.
func TestP12_9HandedIn(t *testing.T) {
	for _, n := range sizes() {
		for _, votes := range casesOf(n) {
			for _, id := range []int{0, n - 1, n} {
				for _, own := range append(noAttrs(n, ownOf(n))[:20], ownOf(n)) {
					g := give(own, votes)
					wasVotes, wasLists := g.copied()
					seq, deps := g.own.Seq, slices.Clone(g.own.Deps)
					g.calls(n, id)
					isVotes, isLists := g.copied()
					if !reflect.DeepEqual(isVotes, wasVotes) || !reflect.DeepEqual(isLists, wasLists) || g.own.Seq != seq || !slices.Equal(g.own.Deps, deps) {
						t.Fatalf("n %d: %+v became %+v, %v became %v", n, wasVotes, isVotes, wasLists, isLists)
					}
				}
			}
		}
	}
}

// What is handed out shares no memory with anything handed in or out, and no call keeps it.
func TestP12_9HandedOut(t *testing.T) {
	for _, n := range sizes() {
		for _, votes := range casesOf(n) {
			for id := range n {
				g := give(ownOf(n), votes)
				lists, want := g.calls(n, id)
				again, _ := g.calls(n, id)
				for i := range lists {
					if !slices.Equal(lists[i], again[i]) {
						t.Fatalf("the second answer is %v, the first was %v", again[i], lists[i])
					}
					_ = append(lists[i], -9)
				}
				_, wasLists := g.copied()
				apart(t, append(lists, again...))
				if _, isLists := g.copied(); !reflect.DeepEqual(isLists, wasLists) {
					t.Fatalf("%v became %v", wasLists, isLists)
				}
				if _, rest := g.calls(n, id); !reflect.DeepEqual(rest, want) {
					t.Fatalf("the third answer is %v, the first was %v", rest, want)
				}
			}
		}
	}
}

// What is handed in and written over behind the call shows in no answer.
func TestP12_9NotKept(t *testing.T) {
	for _, n := range sizes() {
		for _, votes := range casesOf(n) {
			g, fresh := give(ownOf(n), votes), give(ownOf(n), votes)
			lists, _ := g.calls(n, 0)
			want, _ := fresh.calls(n, 0)
			spoil(g.votes, api.Vote{From: 1, State: 2, Deps: filled(n, 5)})
			for _, l := range g.lists {
				spoil(l, 66)
			}
			after, _ := fresh.calls(n, 0)
			for i := range lists {
				if !slices.Equal(lists[i], want[i]) || !slices.Equal(after[i], want[i]) {
					t.Fatalf("the answers became %v and %v, they were %v", lists[i], after[i], want[i])
				}
			}
		}
	}
}

// Spare room behind a list is none of it.
func TestP12_9SpareRoomIsNotRead(t *testing.T) {
	own, long := at(1, 0, 0, 0), filled(9, 0)
	fastIs(t, 3, 0, at(1, long[:2]...), []api.Vote{reply(1, own)}, api.Wait, api.Attr{})
	fastIs(t, 3, 0, api.Attr{Seq: 1, Deps: long[:3]}, []api.Vote{{From: 1, Seq: 1, Deps: long[:2]}}, api.Wait, api.Attr{})
	fastIs(t, 3, 0, api.Attr{Seq: 1, Deps: long[:3]}, []api.Vote{{From: 1, Seq: 1, Deps: long[2:5]}}, api.FastCommit, own)
	votes := []api.Vote{none(0), none(1), none(2)}
	planIs(t, 3, 0, votes[:1], api.Plan{})
	planIs(t, 3, 0, votes[:2], noop())
	bothAre(t, 3, 0, own, []api.Vote{reply(1, at(3, 0, 2, 0)), reply(2, own)}[:1], api.Wait, api.Attr{}, api.GoSlow, at(3, 0, 2, 0))
}

// nil and the empty list are the same.
func TestP12_9Empty(t *testing.T) {
	own := at(1, 0, 0, 0)
	for _, votes := range [][]api.Vote{nil, {}} {
		bothAre(t, 3, 0, own, votes, api.Wait, api.Attr{}, api.Wait, api.Attr{})
		planIs(t, 3, 0, votes, api.Plan{})
	}
	for _, deps := range [][]int{nil, {}} {
		bothAre(t, 3, 0, api.Attr{Seq: 1, Deps: deps}, []api.Vote{reply(1, own)}, api.Wait, api.Attr{}, api.Wait, api.Attr{})
		bothAre(t, 3, 0, own, []api.Vote{{From: 1, Seq: 1, Deps: deps}}, api.Wait, api.Attr{}, api.Wait, api.Attr{})
		planIs(t, 3, 0, []api.Vote{{From: 1, State: 1, Deps: deps}, none(2)}, api.Plan{})
		planIs(t, 3, 0, []api.Vote{{From: 1, Deps: deps}, none(2)}, noop())
	}
}

// Votes in whatever order, as long as no two are of one From, give one answer.
func TestP12_9EveryOrder(t *testing.T) {
	d := dice(129)
	for range 600 {
		n := pick(&d, sizes())
		id := d.below(n)
		own := ownOf(n)
		var replies, votes []api.Vote
		for from := range n {
			v, w := d.reply(n, id), pick(&d, kinds(n, from, id))
			if d.below(9) == 0 {
				w.Seq = -1
			}
			if v.From = from; d.below(4) > 0 {
				replies, votes = append(replies, v), append(votes, w)
			}
		}
		fast, a := quorum.Fast(n, id, own, replies)
		slow, b := quorum.Slow(n, id, own, replies)
		plan := quorum.Prepared(n, id, votes)
		for range 40 {
			d.shuffle(replies)
			d.shuffle(votes)
			bothAre(t, n, id, own, replies, fast, a, slow, b)
			planIs(t, n, id, votes, plan)
		}
	}
}

// Nothing is kept from call to call: answers don't hang on what was asked between.
func TestP12_9Calls(t *testing.T) {
	d := dice(1299)
	for range 3000 {
		n := pick(&d, sizes())
		id, own := d.below(n), ownOf(n)
		votes := pick(&d, casesOf(n))
		fast, a := wordsFast(n, id, own, votes)
		slow, b := wordsSlow(n, id, own, votes)
		bothAre(t, n, id, own, votes, fast, a, slow, b)
		planIs(t, n, id, votes, wordsPlan(n, id, votes))
	}
}
