package replica_test

import (
	"math"
	"strings"
	"testing"

	"moot/api"
	"moot/command"
	"moot/replica"
)

// proposeFails asks for an error of Propose, and that it changes nothing.
func proposeFails(t *testing.T, r *replica.Replica, c api.Cmd, want api.Errno) {
	t.Helper()
	leaves(t, r, "Propose", want, func() api.Errno {
		x, e := r.Propose(c)
		if x != (api.Inst{}) {
			t.Fatalf("Propose(%+v) = %v, %d", c, x, e)
		}
		return e
	})
}

// begins asks for all that a proposal brings about.
func begins(t *testing.T, r *replica.Replica, id, n int, c api.Cmd, x api.Inst, seq int, deps ...int) {
	t.Helper()
	proposes(t, r, c, x)
	leadIs(t, r, x, 1, first(x), 0)
	takes(t, r, records(sameVoted(x, c, seq, deps)), all(n, id, preAccept(x, first(x), c, seq, deps)))
	if s, ok := slotOf(r, x); !ok || s.Bal != first(x) || s.VBal != first(x) || s.State != 1 || !s.Same || s.Cmd != c || s.Seq != seq {
		t.Fatalf("the slot of %v is %+v", x, s)
	}
}

func TestP13_4Propose(t *testing.T) {
	for _, n := range sizes() {
		for id := range n {
			r, zero := replica.New(id, n), filled(n, 0)
			begins(t, r, id, n, p, in(id, 1), 1, zero...)
			begins(t, r, id, n, get("j"), in(id, 2), 1, zero...)
			begins(t, r, id, n, q, in(id, 3), 2, with(zero, id, 1)...)
			begins(t, r, id, n, get("k"), in(id, 4), 3, with(zero, id, 3)...)
			begins(t, r, id, n, pair(api.Count, "a", "z"), in(id, 5), 3, with(zero, id, 3)...)
			begins(t, r, id, n, put("j", ""), in(id, 6), 4, with(zero, id, 5)...)
		}
	}
}

// Every command that may be at version 2 is taken, at its bounds too.
func TestP13_4EveryCommand(t *testing.T) {
	r := replica.New(0, 3)
	long := strings.Repeat("v", 65536)
	for i, c := range []api.Cmd{
		get("a"), put("b", long), {Kind: api.Del, Client: 65535, Req: 1 << 30, Key: "c"},
		{Kind: api.Add, Key: "d", N: math.MinInt64}, {Kind: api.Cas, Key: "e", Old: long, Val: long},
		pair(api.Move, "f", "g"), pair(api.Copy, "h", "i"), pair(api.Count, "x", "y"),
		get(strings.Repeat("k", 64)), put("\x00", ""), get("\xff"),
	} {
		begins(t, r, 0, 3, c, in(0, i+1), 1, 0, 0, 0)
	}
}

func TestP13_4Refused(t *testing.T) {
	wrong := map[api.Errno][]api.Cmd{
		api.ErrKind:   {{Kind: 9, Key: "k"}, {Kind: -1, Key: "k"}, {Kind: 256 + 1, Key: "k"}, {Kind: math.MaxInt}},
		api.ErrField:  {{Client: 1}, {Req: 1}, {Key: "k"}, {Kind: 1, Key: "k", Val: "v"}, {Kind: 2, Key: "k", Key2: "l"}, {Kind: 3, Key: "k", N: 1}, {Kind: 4, Key: "k", Old: "o"}},
		api.ErrClient: {{Kind: 1, Client: -1, Key: "k"}, {Kind: 1, Client: 65536, Key: "k"}, {Kind: 1, Client: -1, Req: -1}},
		api.ErrReq:    {{Kind: 1, Req: -1, Key: "k"}, {Kind: 1, Req: 1<<30 + 1, Key: ""}},
		api.ErrKey:    {{Kind: 1}, put("", "v"), get(strings.Repeat("k", 65))},
		api.ErrKey2:   {pair(api.Move, "k", ""), pair(api.Move, "k", "k"), pair(api.Copy, "k", strings.Repeat("l", 65)), pair(api.Count, "l", "k"), pair(api.Count, "k", "k")},
		api.ErrVal:    {put("k", strings.Repeat("v", 65537))},
		api.ErrOld:    {{Kind: api.Cas, Key: "k", Old: strings.Repeat("v", 65537)}},
		api.ErrNoop:   {{}},
	}
	full := fresh(t, 0, 3, promise(in(0, topNum), bal(1, 1)))
	for e, l := range wrong {
		for _, c := range l {
			if got := command.Check(2, c); got != e && e != api.ErrNoop {
				t.Fatalf("Check(2, %+v) = %d, want %d", c, got, e)
			}
			proposeFails(t, replica.New(0, 3), c, e)
			proposeFails(t, fresh(t, 1, 3, stored()...), c, e)
			proposeFails(t, full, c, e) // ahead of ErrRow
		}
	}
}

// The number behind the greatest of the row is taken, whatever the slot there has; MaxNum is the last.
func TestP13_4Numbers(t *testing.T) {
	zero := vec(0, 0, 0)
	for _, top := range []int{1, 2, 7, 1000, topNum - 2, topNum - 1} {
		for _, row := range []int{0, 1, 2} {
			x := in(row, top)
			for _, rec := range []api.Record{
				promise(x, bal(1, 0)), voted(x, first(x), get("z"), 1, zero), accepted(x, first(x), api.Cmd{}, 0, zero),
				committed(x, get("z"), 1, zero), committed(x, api.Cmd{}, 0, zero),
			} {
				r := fresh(t, row, 3, rec)
				begins(t, r, row, 3, p, in(row, top+1), 1, zero...)
				if top == topNum-1 {
					proposeFails(t, r, q, api.ErrRow)
					proposeFails(t, r, p, api.ErrRow)
				} else {
					begins(t, r, row, 3, get("y"), in(row, top+2), 1, zero...)
				}
			}
		}
	}
	full := fresh(t, 1, 3, promise(in(1, topNum), bal(1, 0)))
	proposeFails(t, full, p, api.ErrRow)
	receives(t, full, 0, preAccept(in(0, topNum), bal(0, 0), p, 1, zero))
	proposeFails(t, drained(full), q, api.ErrRow)
}

func drained(r *replica.Replica) *replica.Replica {
	r.Take()
	return r
}

// Neither other rows' slots nor what slots wait for counts for the number.
func TestP13_4NumbersOfOthers(t *testing.T) {
	r := fresh(t, 1, 3, promise(in(0, topNum), bal(1, 0)), promise(in(2, 9), bal(1, 0)), committed(in(2, 1), get("z"), 1, vec(5, 77, 5)))
	begins(t, r, 1, 3, p, in(1, 1), 1, 0, 0, 0)
	r = fresh(t, 1, 3, promise(in(1, 5), bal(1, 0)), promise(in(1, 3), bal(1, 0)))
	begins(t, r, 1, 3, p, in(1, 6), 1, 0, 0, 0)
	recovers(t, r, in(1, 3))
	r.Take()
	begins(t, r, 1, 3, get("y"), in(1, 7), 1, 0, 0, 0)
}

// Conflicting slots of every State count for what the command must wait for, others don't.
func TestP13_4Attrs(t *testing.T) {
	l := records(
		sameVoted(in(0, 1), p, 5, vec(0, 0, 0)),
		accepted(in(0, 4), bal(1, 1), q, 3, vec(0, 0, 0)),
		committed(in(0, 9), put("other", ""), 90, vec(0, 0, 0)),
		committed(in(1, 2), get("k"), 7, vec(0, 0, 0)),
		voted(in(1, 3), bal(0, 1), get("k"), 2, vec(0, 0, 0)),
		committed(in(2, 8), api.Cmd{}, 0, vec(0, 0, 0)),
		promise(in(2, 9), bal(3, 0)),
	)
	begins(t, fresh(t, 2, 3, l...), 2, 3, p, in(2, 10), 8, 4, 3, 0)
	begins(t, fresh(t, 2, 3, l...), 2, 3, get("k"), in(2, 10), 6, 4, 0, 0)
	begins(t, fresh(t, 2, 3, l...), 2, 3, get("x"), in(2, 10), 1, 0, 0, 0)
	begins(t, fresh(t, 2, 3, l...), 2, 3, pair(api.Copy, "k", "other"), in(2, 10), 91, 9, 0, 0)
	begins(t, fresh(t, 0, 3, l...), 0, 3, p, in(0, 10), 8, 4, 3, 0)
}

// Seq stops at MaxSeq.
func TestP13_4MaxSeq(t *testing.T) {
	for _, c := range []struct{ had, is int }{{topSeq - 2, topSeq - 1}, {topSeq - 1, topSeq}, {topSeq, topSeq}} {
		r := fresh(t, 0, 3, committed(in(1, topNum), p, c.had, vec(0, 0, 0)))
		begins(t, r, 0, 3, q, in(0, 1), c.is, 0, topNum, 0)
	}
}
