package msg_test

import (
	"math"
	"slices"
	"testing"

	"moot/api"
	"moot/msg"
)

// rounds and replicas are telling ones, in bounds and out of them.
func rounds() []int {
	return []int{math.MinInt, -65536, -1, 0, 1, 2, 65534, 65535, 65536, 65537, 1 << 32, math.MaxInt}
}

func replicas(n int) []int {
	out := []int{math.MinInt, -n, -1, n, n + 1, 7, 8, 256, 1 << 32, math.MaxInt}
	for who := range n {
		out = append(out, who)
	}
	return out
}

// eachBallot goes through ballots of all rows, with whether they are the instance's.
func eachBallot(n int, do func(x api.Inst, b api.Ballot, is bool)) {
	for row := range n {
		for _, round := range rounds() {
			for _, who := range replicas(n) {
				is := round >= 0 && round <= 65535 && slices.Contains([]int{0, 1, 2, 3, 4, 5, 6}[:n], who)
				if round == 0 {
					is = who == row
				}
				do(api.Inst{Row: row, Num: 5}, api.Ballot{Round: round, Who: who}, is)
			}
		}
	}
}

func TestP5_1BallotsOfAnInstance(t *testing.T) {
	for n := 1; n <= 7; n++ {
		for _, m := range examples(n) {
			if !has(m, "Bal") {
				continue
			}
			eachBallot(n, func(x api.Inst, b api.Ballot, is bool) {
				m.Inst, m.Bal = x, b
				switch {
				case !is || b.Round == 0 && (m.Kind == 6 || m.Kind == 7):
					checksBoth(t, n, m, api.ErrMsgBallot)
				case m.Kind == 8:
					m.VBal = api.Ballot{Round: b.Round + 1}
					checksBoth(t, n, m, map[bool]api.Errno{true: api.ErrMsgVote}[b.Round == 65535])
				default:
					m.VBal = map[bool]api.Ballot{true: {Who: x.Row}}[has(m, "VBal")]
					checksBoth(t, n, m, api.OK)
				}
			})
		}
	}
}

func TestP5_1BallotsOfVotes(t *testing.T) {
	for n := 1; n <= 7; n++ {
		last := api.Ballot{Round: 65535, Who: n - 1}
		eachBallot(n, func(x api.Inst, b api.Ballot, is bool) {
			fault := map[bool]api.Errno{false: api.ErrMsgVote}[is && b != last]
			for state := 1; state <= 2; state++ {
				m := example(7, state, n)
				m.Inst, m.Bal, m.VBal = x, last, b
				checksBoth(t, n, m, fault)
			}
			m := example(8, 0, n)
			m.Inst, m.Bal, m.VBal = x, api.Ballot{Who: x.Row}, b
			fault = map[bool]api.Errno{false: api.ErrMsgVote}[is && b.Round > 0]
			checksBoth(t, n, m, fault)
		})
	}
}

// The first ballot is the row's own, whatever the row.
func TestP5_1RoundZero(t *testing.T) {
	for row := range 7 {
		for who := range 7 {
			m := example(4, 0, 7)
			m.Inst.Row, m.Bal = row, api.Ballot{Who: who}
			checksBoth(t, 7, m, map[bool]api.Errno{false: api.ErrMsgBallot}[who == row])
		}
	}
}

// inOrder are ballots from the lowest one on: by round, then by who.
func inOrder(n, row int) []api.Ballot {
	out := []api.Ballot{{Who: row}}
	for _, round := range []int{1, 2, 3, 255, 256, 65534, 65535} {
		for who := range n {
			out = append(out, api.Ballot{Round: round, Who: who})
		}
	}
	return out
}

func TestP5_1Order(t *testing.T) {
	for n := 1; n <= 7; n++ {
		for row := range n {
			all := inOrder(n, row)
			for i, a := range all {
				for j, b := range all {
					m := example(8, 0, n)
					m.Inst.Row, m.Bal, m.VBal = row, a, b
					checksBoth(t, n, m, map[bool]api.Errno{false: api.ErrMsgVote}[i < j])
					if i == 0 {
						continue
					}
					for state := 1; state <= 2; state++ {
						m := example(7, state, n)
						m.Inst.Row, m.Bal, m.VBal = row, a, b
						checksBoth(t, n, m, map[bool]api.Errno{false: api.ErrMsgVote}[j < i])
					}
				}
			}
		}
	}
}

func TestP5_2Examples(t *testing.T) {
	at, own, next := api.Inst{Row: 1, Num: 5}, api.Ballot{Who: 1}, api.Ballot{Round: 2}
	checks(t, 1, 3, api.Msg{Kind: 1, Inst: at, Bal: api.Ballot{Who: 2}, Cmd: put, Seq: 2, Deps: []int{3, 4, 0}}, api.ErrMsgBallot)
	checks(t, 2, 3, api.Msg{Kind: 4, Inst: api.Inst{Row: 3}, Seq: 1}, api.ErrMsgExtra)
	checks(t, 2, 3, api.Msg{Kind: 6, Inst: at, Bal: own}, api.ErrMsgBallot)
	checks(t, 2, 3, api.Msg{Kind: 8, Inst: at, Bal: next, VBal: next}, api.ErrMsgVote)
	checks(t, 2, 3, api.Msg{Kind: 1, Inst: at, Bal: own, Deps: []int{0, 0, 0}}, api.ErrMsgNoop)
	checks(t, 2, 3, api.Msg{Kind: 5, Inst: at, Seq: 1, Deps: []int{0, 0}}, api.ErrMsgSeq)
	checks(t, 2, 3, api.Msg{Kind: 5, Inst: at, Cmd: put, Seq: 1, Deps: []int{0, 0}}, api.ErrMsgDeps)
}

func TestP5_2VersionsAndSizes(t *testing.T) {
	for n := 1; n <= 7; n++ {
		for _, m := range append(examples(n), api.Msg{}, api.Msg{Kind: 10, Seq: -1}, api.Msg{Kind: 4, Inst: api.Inst{Row: -1}, Seq: 1}) {
			for _, v := range noVersions() {
				for _, size := range append(noSizes(), n) {
					checks(t, v, size, m, api.ErrVersion)
				}
			}
			for _, size := range noSizes() {
				checks(t, 1, size, m, api.ErrSize)
				checks(t, 2, size, m, api.ErrSize)
			}
		}
		for _, m := range examples(n) {
			checksBoth(t, n, m, api.OK)
		}
	}
}

func TestP5_2Kinds(t *testing.T) {
	for n := 1; n <= 7; n++ {
		for _, m := range append(examples(n), api.Msg{Inst: api.Inst{Row: -1}, Seq: -1, State: 7}) {
			for _, kind := range noKinds() {
				m.Kind = kind
				checks(t, 1, n, m, api.ErrMsgKind)
				checks(t, 2, n, m, api.ErrMsgKind)
			}
			m.Kind = 9
			checks(t, 1, n, m, api.ErrMsgKind)
		}
	}
}

// notZero are the message with one field not zero, in all telling ways.
func notZero(m api.Msg, field string) []api.Msg {
	out := slices.Repeat([]api.Msg{m}, 9)
	cmds := []api.Cmd{{Kind: 1}, {Client: 1}, {Req: -1}, {Key: "k"}, {Key2: "k"}, {Val: "v"}, {Old: "o"}, {N: 1}, put}
	ballots := []api.Ballot{{Round: 1}, {Who: 1}, {Round: -1}, {Who: -1}, {Round: 1, Who: 1}, {Round: 65536}, {Who: 7}, {Round: -1, Who: 1}, {Round: 1 << 32}}
	lists := [][]int{{0}, {1}, {-1}, {0, 0, 0}, filled(7, 0), filled(8, 0), filled(100, 5), {0, 1}, {topNum + 1}}
	for i, x := range []int{1, -1, 2, 3, 4, 256, 1 << 32, math.MinInt, math.MaxInt} {
		switch field {
		case "Bal":
			out[i].Bal = ballots[i]
		case "VBal":
			out[i].VBal = ballots[i]
		case "State":
			out[i].State = x
		case "Same":
			out[i].Same = true
		case "Cmd":
			out[i].Cmd = cmds[i]
		case "Seq":
			out[i].Seq = x
		case "Deps":
			out[i].Deps = lists[i]
		}
	}
	return out
}

func TestP5_2FieldsThatAMessageDoesNotHave(t *testing.T) {
	for n := 1; n <= 7; n++ {
		for _, m := range examples(n) {
			for _, field := range fieldNames() {
				if has(m, field) {
					continue
				}
				for _, bad := range notZero(m, field) {
					checksBoth(t, n, bad, api.ErrMsgExtra)
					bad.Inst = api.Inst{Row: n, Num: 0}
					checksBoth(t, n, bad, api.ErrMsgExtra)
				}
			}
		}
	}
}

// A State that is none of the three is the vote's fault: such a PrepareOK has all fields of a vote.
func TestP5_2PrepareOKWithoutAVote(t *testing.T) {
	for state := -1; state <= 3; state++ {
		full := example(7, 1, 3)
		full.State = state
		plain := api.Msg{Kind: 7, Inst: full.Inst, Bal: full.Bal, State: state}
		checksBoth(t, 3, full, map[int]api.Errno{-1: api.ErrMsgVote, 0: api.ErrMsgExtra, 3: api.ErrMsgVote}[state])
		checksBoth(t, 3, plain, map[int]api.Errno{-1: api.ErrMsgVote, 1: api.ErrMsgVote, 2: api.ErrMsgVote, 3: api.ErrMsgVote}[state])
	}
}

func TestP5_2EmptyListsAreNone(t *testing.T) {
	for n := 1; n <= 7; n++ {
		for _, m := range examples(n) {
			want := api.OK
			if has(m, "Deps") {
				want = api.ErrMsgDeps
			}
			for _, empty := range [][]int{nil, {}, filled(3, 9)[:0]} {
				m.Deps = empty
				checksBoth(t, n, m, want)
			}
		}
	}
}

func TestP5_2Instances(t *testing.T) {
	for n := 1; n <= 7; n++ {
		for _, m := range examples(n) {
			for _, row := range replicas(n) {
				for _, num := range []int{1, 2, topNum - 1, topNum, 0, -1, topNum + 1, 2 * topNum, 1<<32 + 1, math.MinInt, math.MaxInt} {
					m.Inst = api.Inst{Row: row, Num: num}
					ok := 0 <= row && row < n && 1 <= num && num <= topNum
					checksBoth(t, n, m, map[bool]api.Errno{false: api.ErrMsgInst}[ok])
				}
			}
		}
	}
}

func TestP5_2States(t *testing.T) {
	for _, state := range []int{-1, 1, 2, 3, 4, 5, 256, 257, 1<<32 + 1, math.MinInt, math.MaxInt} {
		m := example(7, 1, 3)
		m.State = state
		checksBoth(t, 3, m, map[bool]api.Errno{false: api.ErrMsgVote}[state == 1 || state == 2])
	}
}

func TestP5_2Same(t *testing.T) {
	for n := 1; n <= 7; n++ {
		for state := -1; state <= 3; state++ {
			for round := range 3 {
				m := example(7, 1, n)
				m.State, m.Same, m.Bal = state, true, api.Ballot{Round: 3}
				m.VBal = api.Ballot{Round: round, Who: n - 1}
				want := map[bool]api.Errno{false: api.ErrMsgVote}[state == 1 && round == 0]
				if state == 0 {
					want = api.ErrMsgExtra
				}
				checksBoth(t, n, m, want)
			}
		}
	}
}

func TestP5_2Commands(t *testing.T) {
	wrong := map[api.Errno]api.Cmd{
		api.ErrKind: {Kind: 9}, api.ErrClient: {Kind: 2, Client: -1}, api.ErrReq: {Kind: 2, Req: 1<<30 + 1}, api.ErrKey: {Kind: 2},
		api.ErrVal: {Kind: 2, Key: "k", Val: text(65537)}, api.ErrOld: {Kind: 5, Key: "k", Old: text(65537)}, api.ErrField: {Kind: 0, Req: 1},
	}
	for _, m := range examples(3) {
		if !has(m, "Cmd") {
			continue
		}
		for fault, c := range wrong {
			m.Cmd = c
			checksBoth(t, 3, m, fault)
			m.Seq, m.Deps = -1, nil
			checksBoth(t, 3, m, fault)
			m.Seq, m.Deps = 2, filled(3, 3)
		}
		for _, c := range []api.Cmd{move, {Kind: 7, Key: "k", Key2: "l"}, {Kind: 8, Key: "k", Key2: "l"}} {
			m.Cmd = c
			checks(t, 1, 3, m, api.ErrKind)
			checks(t, 2, 3, m, api.OK)
			m.Cmd.Key2 = "k"
			checks(t, 2, 3, m, api.ErrKey2)
		}
		m.Cmd = api.Cmd{Kind: 2, Key: "k", Val: text(1025)}
		checks(t, 1, 3, m, api.ErrVal)
		checks(t, 2, 3, m, api.OK)
		m.Cmd = great
		checks(t, 2, 3, m, api.OK)
	}
}

func TestP5_2Noops(t *testing.T) {
	for n := 1; n <= 7; n++ {
		for _, m := range examples(n) {
			if !has(m, "Cmd") {
				continue
			}
			want := api.OK
			if m.Kind == 1 || m.Kind == 7 && m.State == 1 {
				want = api.ErrMsgNoop
			}
			checksBoth(t, n, noopOf(m), want)
		}
		checksBoth(t, n, noopOf(sameOf(example(7, 1, n))), api.ErrMsgNoop)
		checksBoth(t, n, sameOf(example(7, 1, n)), api.OK)
	}
}

func TestP5_2Seqs(t *testing.T) {
	for _, m := range examples(3) {
		if !has(m, "Seq") {
			continue
		}
		for _, seq := range []int{math.MinInt, -topSeq, -1, 0, 1, 2, topSeq - 1, topSeq, topSeq + 1, 1 << 31, 1<<32 + 1, math.MaxInt} {
			m.Seq = seq
			checksBoth(t, 3, m, map[bool]api.Errno{false: api.ErrMsgSeq}[1 <= seq && seq <= topSeq])
			if noop := noopOf(m); m.Kind == 3 || m.Kind == 5 || m.State == 2 {
				noop.Seq = seq
				checksBoth(t, 3, noop, map[bool]api.Errno{false: api.ErrMsgSeq}[seq == 0])
			}
		}
	}
}

func TestP5_2Deps(t *testing.T) {
	for n := 1; n <= 7; n++ {
		for _, m := range examples(n) {
			if !has(m, "Deps") {
				continue
			}
			for _, size := range []int{0, n - 1, n, n + 1, 2 * n, n + 256} {
				m.Deps = filled(size, 0)
				checksBoth(t, n, m, map[bool]api.Errno{false: api.ErrMsgDeps}[size == n])
			}
			for place := range n {
				for _, k := range []int{math.MinInt, -topNum, -1, 0, 1, topNum - 1, topNum, topNum + 1, 1 << 32, math.MaxInt} {
					m.Deps = filled(n, 7)
					m.Deps[place] = k
					checksBoth(t, n, m, map[bool]api.Errno{false: api.ErrMsgDeps}[0 <= k && k <= topNum])
					if noop := noopOf(m); m.Kind == 3 || m.Kind == 5 || m.State == 2 {
						noop.Deps[place] = k
						checksBoth(t, n, noop, map[bool]api.Errno{false: api.ErrMsgDeps}[k == 0])
					}
				}
			}
		}
	}
}

func TestP5_2NoopsNeedAllEntries(t *testing.T) {
	for n := 1; n <= 7; n++ {
		for _, m := range []api.Msg{noopOf(example(3, 0, n)), noopOf(example(5, 0, n)), noopOf(example(7, 2, n))} {
			for size := range 9 {
				m.Deps = filled(size, 0)
				checksBoth(t, n, m, map[bool]api.Errno{false: api.ErrMsgDeps}[size == n])
			}
		}
	}
}

// spoilt is m with what one of the eight steps looks at amiss, and the error; OK, if the message has nothing there.
func spoilt(m api.Msg, step int) (api.Msg, api.Errno) {
	switch {
	case step == 1:
		m.Kind = 10
		return m, api.ErrMsgKind
	case step == 2 && !has(m, "Same"):
		m.Same = true
		return m, api.ErrMsgExtra
	case step == 3:
		m.Inst.Num = 0
		return m, api.ErrMsgInst
	case step == 4 && has(m, "Bal"):
		m.Bal.Round = -1
		return m, api.ErrMsgBallot
	case step == 5 && has(m, "VBal"):
		m.VBal.Who = 9
		return m, api.ErrMsgVote
	case step == 6 && has(m, "Cmd"):
		m.Cmd.Req = -1
		return m, api.ErrReq
	case step == 7 && has(m, "Seq"):
		m.Seq = -1
		return m, api.ErrMsgSeq
	case step == 8 && has(m, "Deps"):
		m.Deps = []int{-1}
		return m, api.ErrMsgDeps
	}
	return m, api.OK
}

// TestP5_2TheOrderOfTheSteps spoils every set of steps at once, the kind last, for it says what the others are.
func TestP5_2TheOrderOfTheSteps(t *testing.T) {
	for _, m := range examples(3) {
		for set := range 1 << 8 {
			bad, want := m, api.OK
			for step := 8; step >= 1; step-- {
				if set>>(step-1)&1 == 0 {
					continue
				}
				var e api.Errno
				if bad, e = spoilt(bad, step); e != api.OK {
					want = e
				}
			}
			checks(t, 2, 3, bad, want)
			if m.Kind < 9 {
				checks(t, 1, 3, bad, want)
			}
		}
	}
}

// A noop in the wrong place comes behind the command's own error and ahead of Seq and Deps.
func TestP5_2NoopsInTheOrder(t *testing.T) {
	for _, m := range []api.Msg{noopOf(example(1, 0, 3)), noopOf(example(7, 1, 3))} {
		m.Seq, m.Deps = 1, nil
		checksBoth(t, 3, m, api.ErrMsgNoop)
		m.Cmd.Key = "k"
		checksBoth(t, 3, m, api.ErrField)
		m.Cmd.Key, m.Bal.Who = "", 3
		checksBoth(t, 3, m, api.ErrMsgBallot)
	}
	m := noopOf(example(5, 0, 3))
	m.Seq, m.Deps = 1, []int{0, 0, 1}
	checksBoth(t, 3, m, api.ErrMsgSeq)
	m.Seq = 0
	checksBoth(t, 3, m, api.ErrMsgDeps)
}

// blur changes a field here and there, mostly to what is near.
func (d *dice) blur(m api.Msg) api.Msg {
	numbers := []*int{&m.Kind, &m.Inst.Row, &m.Inst.Num, &m.Bal.Round, &m.Bal.Who, &m.VBal.Round, &m.VBal.Who, &m.State, &m.Cmd.Kind, &m.Seq}
	for range d.below(4) {
		x := pick(d, numbers)
		*x = pick(d, []int{*x - 1, *x + 1, 0, 1, -1, 2 * *x, math.MaxInt, math.MinInt, 1 << 32})
	}
	switch d.below(6) {
	case 0:
		m.Same = !m.Same
	case 1:
		m.Deps = append(slices.Clone(m.Deps), 0)
	case 2:
		m.Deps = m.Deps[:len(m.Deps)/2]
	case 3:
		m.Cmd = api.Cmd{}
	}
	return m
}

func TestP5_2ThrownMessages(t *testing.T) {
	d := dice(1)
	for range 60000 {
		v, n := 1+d.below(2), 1+d.below(7)
		m := d.message(v, n)
		checks(t, v, n, m, api.OK)
		checks(t, 3-v, n, m, modelCheck(3-v, n, m))
		bad := d.blur(m)
		for v := range 4 {
			checks(t, v, n, bad, modelCheck(v, n, bad))
		}
		other := d.below(9)
		checks(t, v, other, m, modelCheck(v, other, m))
	}
}

func TestP5_3Lowest(t *testing.T) {
	moved := example(5, 0, 3)
	moved.Cmd = move
	long := example(3, 0, 3)
	long.Cmd.Val = text(1025)
	early := example(6, 0, 3)
	early.Bal = api.Ballot{Who: 2}
	for _, c := range []struct {
		n    int
		m    api.Msg
		want int
	}{
		{3, moved, 2}, {3, long, 2}, {3, early, 0}, {3, example(9, 0, 3), 2}, {1, example(9, 0, 3), 0}, {5, example(9, 0, 3), 2},
		{3, api.Msg{}, 0}, {3, api.Msg{Kind: 10}, 0}, {3, noopOf(example(5, 0, 3)), 1}, {3, noopOf(example(1, 0, 3)), 0},
	} {
		if v := msg.Lowest(c.n, c.m); v != c.want {
			t.Errorf("Lowest(%d, %s) = %d, want %d", c.n, short(c.m), v, c.want)
		}
	}
	for n := 1; n <= 7; n++ {
		for _, m := range examples(n) {
			want := 1
			if m.Kind == 9 {
				want = 2
			}
			if v := msg.Lowest(n, m); v != want {
				t.Errorf("Lowest(%d, %s) = %d, want %d", n, short(m), v, want)
			}
			for _, size := range noSizes() {
				if v := msg.Lowest(size, m); v != 0 {
					t.Errorf("Lowest(%d, %s) = %d, want 0", size, short(m), v)
				}
			}
		}
	}
}

// What is valid at version 1 is valid at version 2.
func TestP5_3ThrownMessages(t *testing.T) {
	d := dice(2)
	seen := map[int]int{}
	for range 20000 {
		n := 1 + d.below(7)
		m := d.message(1+d.below(2), n)
		if d.below(2) == 0 {
			m = d.blur(m)
		}
		want := 0
		if modelCheck(2, n, m) == api.OK {
			want = 2
		}
		if modelCheck(1, n, m) == api.OK {
			want = 1
			checks(t, 2, n, m, api.OK)
		}
		seen[want]++
		if v := msg.Lowest(n, m); v != want {
			t.Errorf("Lowest(%d, %s) = %d, want %d", n, short(m), v, want)
		}
	}
	if seen[0] < 1000 || seen[1] < 1000 || seen[2] < 1000 {
		t.Errorf("the messages were of too few sorts: %v", seen)
	}
}
