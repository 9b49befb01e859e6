package record_test

import (
	"math"
	"slices"
	"testing"

	"moot/api"
)

// replicas are all that there are, and numbers that are none.
func replicas(n int) []int {
	out := []int{math.MinInt, -n, -1, n, n + 1, 7, 8, 256, 1 << 32, math.MaxInt}
	for who := range n {
		out = append(out, who)
	}
	return out
}

func TestP6_1Examples(t *testing.T) {
	checks(t, 3, api.Record{Kind: 2, Inst: api.Inst{Row: 1, Num: 4}, Bal: api.Ballot{Round: 2}, Seq: 1}, api.ErrRecExtra)
	checks(t, 3, api.Record{Kind: 5, Inst: api.Inst{Num: 1}, Seq: 1, Deps: filled(3, 0)}, api.ErrRecAttr)
	for _, f := range forms() {
		checks(t, f.n, f.r, api.OK)
	}
}

func TestP6_1Sizes(t *testing.T) {
	for n := 1; n <= 7; n++ {
		for _, r := range append(sorts(n), api.Record{}, api.Record{Kind: 6, Seq: -1}, api.Record{Kind: 2, Id: 1}) {
			for _, size := range noSizes() {
				checks(t, size, r, api.ErrSize)
			}
		}
		for _, r := range sorts(n) {
			checks(t, n, r, api.OK)
		}
	}
}

func TestP6_1Kinds(t *testing.T) {
	for n := 1; n <= 7; n++ {
		for _, r := range append(examples(n), api.Record{Inst: api.Inst{Row: -1}, Seq: -1, Id: 9, N: 9}) {
			for _, kind := range noKinds() {
				r.Kind = kind
				checks(t, n, r, api.ErrRecKind)
			}
		}
	}
}

// notZero are the record with one field not zero, in all telling ways.
func notZero(r api.Record, field string) []api.Record {
	out := slices.Repeat([]api.Record{r}, 9)
	cmds := []api.Cmd{{Kind: 1}, {Client: 1}, {Req: -1}, {Key: "k"}, {Key2: "k"}, {Val: "v"}, {Old: "o"}, {N: 1}, put}
	pairs := [][2]int{{1, 0}, {0, 1}, {-1, 0}, {0, -1}, {1, 1}, {65536, 0}, {0, 7}, {-1, 1}, {1 << 32, 0}}
	lists := [][]int{{0}, {1}, {-1}, {0, 0, 0}, filled(7, 0), filled(8, 0), filled(100, 5), {0, 1}, {topNum + 1}}
	for i, x := range []int{1, -1, 2, 3, 7, 256, 1 << 32, math.MinInt, math.MaxInt} {
		switch field {
		case "Id":
			out[i].Id = x
		case "N":
			out[i].N = x
		case "Inst":
			out[i].Inst = api.Inst{Row: pairs[i][0], Num: pairs[i][1]}
		case "Bal":
			out[i].Bal = api.Ballot{Round: pairs[i][0], Who: pairs[i][1]}
		case "Same":
			out[i].Same = true
		case "Cmd":
			out[i].Cmd = cmds[i]
		case "Seq":
			out[i].Seq = x
		case "Deps":
			out[i].Deps = lists[i]
		}
	}
	return out
}

func TestP6_1FieldsThatAKindDoesNotHave(t *testing.T) {
	for n := 1; n <= 7; n++ {
		for _, r := range sorts(n) {
			for _, field := range fieldNames() {
				if has(r.Kind, field) {
					continue
				}
				for _, bad := range notZero(r, field) {
					checks(t, n, bad, api.ErrRecExtra)
					if r.Kind == 1 {
						bad.N = 8
					} else {
						bad.Inst = api.Inst{Row: n, Num: 0}
					}
					checks(t, n, bad, api.ErrRecExtra)
				}
			}
		}
	}
}

func TestP6_1EmptyListsAreNone(t *testing.T) {
	for n := 1; n <= 7; n++ {
		for _, r := range sorts(n) {
			for _, empty := range [][]int{nil, {}, filled(3, 9)[:0]} {
				r.Deps = empty
				holds(t, n, r, !has(r.Kind, "Deps"), api.ErrRecAttr)
			}
		}
	}
}

// A Head says how many replicas there are by itself.
func TestP6_1Heads(t *testing.T) {
	for n := 1; n <= 7; n++ {
		for _, size := range []int{math.MinInt, -1, 0, 1, 2, 3, 4, 5, 6, 7, 8, 9, 256, 259, 1<<32 + 3, math.MaxInt} {
			for _, id := range []int{math.MinInt, -size, -1, 0, 1, 2, 3, 4, 5, 6, 7, 8, size - 1, size, size + 1, 256, 1 << 32, math.MaxInt} {
				ok := 1 <= size && size <= 7 && 0 <= id && id < size
				holds(t, n, api.Record{Kind: 1, Id: id, N: size}, ok, api.ErrRecHead)
			}
		}
	}
}

func TestP6_1Instances(t *testing.T) {
	for n := 1; n <= 7; n++ {
		for _, r := range examples(n)[1:] {
			for _, row := range replicas(n) {
				for _, num := range []int{1, 2, topNum - 1, topNum, 0, -1, topNum + 1, 2 * topNum, 1<<32 + 1, math.MinInt, math.MaxInt} {
					r.Inst = api.Inst{Row: row, Num: num}
					ok := 0 <= row && row < n && 1 <= num && num <= topNum
					holds(t, n, r, ok, api.ErrRecInst)
				}
			}
		}
	}
}

func TestP6_1Ballots(t *testing.T) {
	for n := 1; n <= 7; n++ {
		for _, r := range append(balloted(n), noopOf(example(4, n))) {
			for row := range n {
				for _, round := range []int{math.MinInt, -65536, -1, 0, 1, 2, 65534, 65535, 65536, 65537, 1 << 32, math.MaxInt} {
					for _, who := range replicas(n) {
						r.Inst.Row, r.Bal = row, api.Ballot{Round: round, Who: who}
						ok := 0 < round && round <= 65535 && 0 <= who && who < n
						if round == 0 {
							ok = who == row && r.Kind != 2
						}
						holds(t, n, r, ok, api.ErrRecBallot)
					}
				}
			}
		}
	}
}

func TestP6_1Same(t *testing.T) {
	for n := 1; n <= 7; n++ {
		for row := range n {
			r := example(3, n)
			r.Inst.Row = row
			checks(t, n, sameOf(r), api.OK)
			for _, round := range []int{0, 1, 2, 255, 256, 65535} {
				r.Bal, r.Same = api.Ballot{Round: round, Who: row}, true
				holds(t, n, r, round == 0, api.ErrRecSame)
				r.Same = false
				checks(t, n, r, api.OK)
			}
		}
	}
}

// wrongCommands are those that chapter 4 refuses at version 2.
func wrongCommands() map[api.Errno][]api.Cmd {
	return map[api.Errno][]api.Cmd{
		api.ErrKind:   {{Kind: 9}, {Kind: -1}, {Kind: 256}},
		api.ErrClient: {{Kind: 2, Client: -1}, {Kind: 2, Client: 65536, Key: "k"}},
		api.ErrReq:    {{Kind: 2, Req: topSeq + 1}, {Kind: 1, Req: -1, Key: "k"}},
		api.ErrKey:    {{Kind: 2}, {Kind: 1, Key: text(65)}},
		api.ErrKey2:   {{Kind: 6, Key: "k"}, {Kind: 7, Key: "k", Key2: "k"}, {Kind: 8, Key: "l", Key2: "k"}},
		api.ErrVal:    {{Kind: 2, Key: "k", Val: text(65537)}},
		api.ErrOld:    {{Kind: 5, Key: "k", Old: text(65537)}},
		api.ErrField:  {{Kind: 0, Req: 1}, {Kind: 0, Client: 1}, {Kind: 0, Key: "k"}, {Kind: 0, N: 1}, {Kind: 1, Key: "k", Val: "v"}},
	}
}

func TestP6_1Commands(t *testing.T) {
	for _, r := range commanded(3) {
		for fault, cmds := range wrongCommands() {
			for _, c := range cmds {
				bad := r
				bad.Cmd = c
				checks(t, 3, bad, fault)
				bad.Seq, bad.Deps = 0, filled(3, 0)
				checks(t, 3, bad, fault)
				bad.Seq, bad.Deps = -1, nil
				checks(t, 3, bad, fault)
			}
		}
		for _, c := range []api.Cmd{get, move, great, {Kind: 7, Key: "k", Key2: "a"}, {Kind: 8, Key: "k", Key2: "l"}, {Kind: 3, Key: "k"}, {Kind: 4, Key: "k", N: math.MinInt64}} {
			r.Cmd = c
			checks(t, 3, r, api.OK)
		}
	}
}

func TestP6_1Noops(t *testing.T) {
	for n := 1; n <= 7; n++ {
		for _, r := range append(commanded(n), sameOf(example(3, n))) {
			holds(t, n, noopOf(r), r.Kind != 3, api.ErrRecAttr)
		}
	}
}

func TestP6_1Seqs(t *testing.T) {
	for _, r := range commanded(3) {
		for _, seq := range []int{math.MinInt, -topSeq, -1, 0, 1, 2, topSeq - 1, topSeq, topSeq + 1, 1 << 31, 1<<32 + 1, math.MaxInt} {
			r.Seq = seq
			holds(t, 3, r, 1 <= seq && seq <= topSeq, api.ErrRecAttr)
			noop := noopOf(r)
			noop.Seq = seq
			holds(t, 3, noop, seq == 0 && r.Kind != 3, api.ErrRecAttr)
		}
	}
}

func TestP6_1DepsEntries(t *testing.T) {
	for n := 1; n <= 7; n++ {
		for _, r := range commanded(n) {
			for place := range n {
				for _, k := range []int{math.MinInt, -topNum, -1, 0, 1, topNum - 1, topNum, topNum + 1, 1 << 32, math.MaxInt} {
					r.Deps = filled(n, 7)
					r.Deps[place] = k
					holds(t, n, r, 0 <= k && k <= topNum, api.ErrRecAttr)
					noop := noopOf(r)
					noop.Deps[place] = k
					holds(t, n, noop, k == 0 && r.Kind != 3, api.ErrRecAttr)
				}
			}
		}
	}
}

func TestP6_1DepsLengths(t *testing.T) {
	for n := 1; n <= 7; n++ {
		for _, r := range commanded(n) {
			for _, size := range []int{0, 1, n - 1, n, n + 1, 7, 8, 2 * n, n + 256} {
				r.Deps = filled(size, 0)
				holds(t, n, r, size == n, api.ErrRecAttr)
				noop := noopOf(r)
				noop.Deps = filled(size, 0)
				holds(t, n, noop, size == n && r.Kind != 3, api.ErrRecAttr)
			}
		}
	}
}

// spoilt is r with what one of the eight steps looks at amiss, and the error; OK, if the record has nothing there.
func spoilt(r api.Record, step int) (api.Record, api.Errno) {
	switch {
	case step == 1:
		r.Kind = 6
		return r, api.ErrRecKind
	case step == 2 && r.Kind == 3:
		r.Id = 1
		return r, api.ErrRecExtra
	case step == 2:
		r.Same = true
		return r, api.ErrRecExtra
	case step == 3 && r.Kind == 1:
		r.Id = r.N
		return r, api.ErrRecHead
	case step == 4 && has(r.Kind, "Inst"):
		r.Inst.Num = 0
		return r, api.ErrRecInst
	case step == 5 && has(r.Kind, "Bal"):
		r.Bal.Who = 3
		return r, api.ErrRecBallot
	case step == 6 && r.Kind == 3:
		r.Same = true
		return r, api.ErrRecSame
	case step == 7 && has(r.Kind, "Cmd"):
		r.Cmd.Req = -1
		return r, api.ErrReq
	case step == 8 && has(r.Kind, "Cmd"):
		r.Seq, r.Deps = -1, []int{-1}
		return r, api.ErrRecAttr
	}
	return r, api.OK
}

// TestP6_1TheOrderOfTheSteps spoils every set of steps at once, the kind last, for it says what the others are.
func TestP6_1TheOrderOfTheSteps(t *testing.T) {
	for _, r := range examples(3) {
		for set := range 1 << 8 {
			bad, want := r, api.OK
			for step := 8; step >= 1; step-- {
				if set>>(step-1)&1 == 0 {
					continue
				}
				var e api.Errno
				if bad, e = spoilt(bad, step); e != api.OK {
					want = e
				}
			}
			checks(t, 3, bad, want)
			checks(t, 8, bad, api.ErrSize)
		}
	}
}

// A noop that was voted for comes behind the command's own error.
func TestP6_1NoopsInTheOrder(t *testing.T) {
	r := noopOf(example(3, 3))
	r.Cmd.Key = "k"
	checks(t, 3, r, api.ErrField)
	r.Same = true
	checks(t, 3, r, api.ErrRecSame)
	r.Bal.Who = 3
	checks(t, 3, r, api.ErrRecBallot)
}

// blur changes a field here and there, mostly to what is near.
func (d *dice) blur(r api.Record) api.Record {
	numbers := []*int{&r.Kind, &r.Inst.Row, &r.Inst.Num, &r.Bal.Round, &r.Bal.Who, &r.Cmd.Kind, &r.Seq, &r.Id, &r.N}
	for range d.below(4) {
		x := pick(d, numbers)
		*x = pick(d, []int{*x - 1, *x + 1, 0, 1, -1, 2 * *x, math.MaxInt, math.MinInt, 1 << 32})
	}
	switch d.below(6) {
	case 0:
		r.Same = !r.Same
	case 1:
		r.Deps = append(slices.Clone(r.Deps), 0)
	case 2:
		r.Deps = r.Deps[:len(r.Deps)/2]
	case 3:
		r.Cmd = api.Cmd{}
	}
	return r
}

func TestP6_1ThrownRecords(t *testing.T) {
	d := dice(1)
	for range 60000 {
		n := 1 + d.below(7)
		r := d.record(n)
		checks(t, n, r, api.OK)
		bad := d.blur(r)
		checks(t, n, bad, modelCheck(n, bad))
		other := d.below(9)
		checks(t, other, r, modelCheck(other, r))
	}
}
