package replica_test

import (
	"fmt"
	"math"
	"reflect"
	"slices"
	"testing"

	"moot/api"
	"moot/replica"
)

// The limits in the document's numbers.
const (
	topNum   = 1048576
	topSeq   = 1073741824
	topRound = 65535
)

// dice throws the same numbers every time.
type dice uint64

func (d *dice) below(n int) int {
	*d = *d*6364136223846793005 + 1442695040888963407
	return int(uint64(*d>>33) % uint64(n))
}

func pick[T any](d *dice, from []T) T { return from[d.below(len(from))] }

// wild are ints far from all that may be, some of them with low bits that may be.
func wild() []int {
	return []int{255, 256, 257, 259, 1<<20 + 1, 1 << 32, 1<<32 + 1, 1<<32 + 3, -255, -256, -1 << 32, 3 - 1<<32, math.MinInt, math.MinInt + 1, math.MinInt + 3, math.MaxInt}
}

func sizes() []int { return []int{3, 5, 7} }

func noSizes() []int { return append(wild(), -7, -5, -3, -1, 0, 1, 2, 4, 6, 8, 9, 11) }

// noReplicas are numbers of nobody among n.
func noReplicas(n int) []int { return append(wild(), -n, -2, -1, n, n+1, 2*n) }

// noInsts are instances that may not be among n.
func noInsts(n int) []api.Inst {
	var out []api.Inst
	for _, row := range noReplicas(n) {
		out = append(out, in(row, 1), in(row, 0), in(row, topNum))
	}
	for _, num := range append(wild(), 0, -1, -2, topNum+1, topNum+2, 2*topNum) {
		if num < 1 || num > topNum {
			out = append(out, in(0, num), in(n-1, num))
		}
	}
	return append(out, api.Inst{})
}

func in(row, num int) api.Inst { return api.Inst{Row: row, Num: num} }

func bal(round, who int) api.Ballot { return api.Ballot{Round: round, Who: who} }

func first(x api.Inst) api.Ballot { return bal(0, x.Row) }

func vec(d ...int) []int { return d }

// filled is n times x.
func filled(n, x int) []int { return slices.Repeat([]int{x}, n) }

// with is a copy of d with x at the place i.
func with(d []int, i, x int) []int {
	out := slices.Clone(d)
	out[i] = x
	return out
}

// others are the replicas but self, rising.
func others(n, self int) []int {
	var out []int
	for id := range n {
		if id != self {
			out = append(out, id)
		}
	}
	return out
}

var (
	p = put("k", "1")
	q = put("k", "2")
)

func get(key string) api.Cmd { return api.Cmd{Kind: api.Get, Key: key} }

func put(key, val string) api.Cmd { return api.Cmd{Kind: api.Put, Key: key, Val: val} }

func pair(kind int, key, key2 string) api.Cmd { return api.Cmd{Kind: kind, Key: key, Key2: key2} }

// Records.

func promise(x api.Inst, b api.Ballot) api.Record {
	return api.Record{Kind: 2, Inst: x, Bal: b}
}

func voted(x api.Inst, b api.Ballot, c api.Cmd, seq int, deps []int) api.Record {
	return api.Record{Kind: 3, Inst: x, Bal: b, Cmd: c, Seq: seq, Deps: deps}
}

func sameVoted(x api.Inst, c api.Cmd, seq int, deps []int) api.Record {
	return api.Record{Kind: 3, Inst: x, Bal: first(x), Same: true, Cmd: c, Seq: seq, Deps: deps}
}

func accepted(x api.Inst, b api.Ballot, c api.Cmd, seq int, deps []int) api.Record {
	return api.Record{Kind: 4, Inst: x, Bal: b, Cmd: c, Seq: seq, Deps: deps}
}

func committed(x api.Inst, c api.Cmd, seq int, deps []int) api.Record {
	return api.Record{Kind: 5, Inst: x, Cmd: c, Seq: seq, Deps: deps}
}

// Messages.

func preAccept(x api.Inst, b api.Ballot, c api.Cmd, seq int, deps []int) api.Msg {
	return api.Msg{Kind: 1, Inst: x, Bal: b, Cmd: c, Seq: seq, Deps: deps}
}

func preAcceptOK(x api.Inst, b api.Ballot, seq int, deps []int) api.Msg {
	return api.Msg{Kind: 2, Inst: x, Bal: b, Seq: seq, Deps: deps}
}

func accept(x api.Inst, b api.Ballot, c api.Cmd, seq int, deps []int) api.Msg {
	return api.Msg{Kind: 3, Inst: x, Bal: b, Cmd: c, Seq: seq, Deps: deps}
}

func acceptOK(x api.Inst, b api.Ballot) api.Msg { return api.Msg{Kind: 4, Inst: x, Bal: b} }

func commit(x api.Inst, c api.Cmd, seq int, deps []int) api.Msg {
	return api.Msg{Kind: 5, Inst: x, Cmd: c, Seq: seq, Deps: deps}
}

func prepare(x api.Inst, b api.Ballot) api.Msg { return api.Msg{Kind: 6, Inst: x, Bal: b} }

// none is a PrepareOK of one who has not voted.
func none(x api.Inst, b api.Ballot) api.Msg { return api.Msg{Kind: 7, Inst: x, Bal: b} }

// pre and acc are PrepareOKs of a vote at v, PreAccepted and Accepted.
func pre(x api.Inst, b, v api.Ballot, c api.Cmd, seq int, deps []int) api.Msg {
	return api.Msg{Kind: 7, Inst: x, Bal: b, State: 1, VBal: v, Cmd: c, Seq: seq, Deps: deps}
}

func acc(x api.Inst, b, v api.Ballot, c api.Cmd, seq int, deps []int) api.Msg {
	return api.Msg{Kind: 7, Inst: x, Bal: b, State: 2, VBal: v, Cmd: c, Seq: seq, Deps: deps}
}

// same is one of a vote that is the same, at the first ballot.
func same(x api.Inst, b api.Ballot, c api.Cmd, seq int, deps []int) api.Msg {
	return api.Msg{Kind: 7, Inst: x, Bal: b, State: 1, Same: true, VBal: first(x), Cmd: c, Seq: seq, Deps: deps}
}

func nack(x api.Inst, b, promised api.Ballot) api.Msg {
	return api.Msg{Kind: 8, Inst: x, Bal: b, VBal: promised}
}

func want(x api.Inst) api.Msg { return api.Msg{Kind: 9, Inst: x} }

func to(id int, m api.Msg) api.Out { return api.Out{To: id, Msg: m} }

// all is a message to everybody but self.
func all(n, self int, m api.Msg) []api.Out {
	var out []api.Out
	for _, id := range others(n, self) {
		out = append(out, to(id, m))
	}
	return out
}

func records(l ...api.Record) []api.Record { return l }

func outs(l ...api.Out) []api.Out { return l }

// bareRecords, bareOuts and bareSlots: a nil list and an empty one are the same.
func bareRecords(l []api.Record) []api.Record {
	var out []api.Record
	for _, r := range l {
		r.Deps = bare(r.Deps)
		out = append(out, r)
	}
	return out
}

func bareOuts(l []api.Out) []api.Out {
	var out []api.Out
	for _, o := range l {
		o.Msg.Deps = bare(o.Msg.Deps)
		out = append(out, o)
	}
	return out
}

func bareSlots(l []api.Slot) []api.Slot {
	var out []api.Slot
	for _, s := range l {
		s.Deps = bare(s.Deps)
		out = append(out, s)
	}
	return out
}

func bare(d []int) []int {
	if len(d) == 0 {
		return nil
	}
	return slices.Clone(d)
}

func lines[T any](l []T) string {
	out := ""
	for _, x := range l {
		out += fmt.Sprintf("\t%+v\n", x)
	}
	return out
}

// fresh is a replica with these records, which it must take.
func fresh(t *testing.T, id, n int, l ...api.Record) *replica.Replica {
	t.Helper()
	r, e := replica.Load(id, n, l)
	if r == nil || e != api.OK {
		t.Fatalf("Load(%d, %d, %+v) = %v, %d", id, n, l, r, e)
	}
	return r
}

// takes asks for just these records and messages to come out.
func takes(t *testing.T, r *replica.Replica, rs []api.Record, os []api.Out) {
	t.Helper()
	a, b := r.Take()
	if !reflect.DeepEqual(bareRecords(a), bareRecords(rs)) {
		t.Fatalf("Take: the records\n%swant\n%s", lines(a), lines(rs))
	}
	if !reflect.DeepEqual(bareOuts(b), bareOuts(os)) {
		t.Fatalf("Take: the messages\n%swant\n%s", lines(b), lines(os))
	}
}

func takesNothing(t *testing.T, r *replica.Replica) {
	t.Helper()
	takes(t, r, nil, nil)
}

func leadIs(t *testing.T, r *replica.Replica, x api.Inst, phase int, b api.Ballot, count int) {
	t.Helper()
	if is, ib, ic := r.Lead(x); is != phase || ib != b || ic != count {
		t.Fatalf("Lead(%v) = %d, %v, %d, want %d, %v, %d", x, is, ib, ic, phase, b, count)
	}
}

func noLead(t *testing.T, r *replica.Replica, x api.Inst) {
	t.Helper()
	leadIs(t, r, x, 0, bal(0, 0), 0)
}

func slotsAre(t *testing.T, r *replica.Replica, want ...api.Slot) {
	t.Helper()
	if got := r.Slots(); !reflect.DeepEqual(bareSlots(got), bareSlots(want)) {
		t.Fatalf("Slots() =\n%swant\n%s", lines(got), lines(want))
	}
}

// slotOf is what the replica shows of an instance, and whether it has one.
func slotOf(r *replica.Replica, x api.Inst) (api.Slot, bool) {
	for _, s := range r.Slots() {
		if s.Inst == x {
			return s, true
		}
	}
	return api.Slot{}, false
}

func receives(t *testing.T, r *replica.Replica, from int, m api.Msg) {
	t.Helper()
	if e := r.Receive(from, m); e != api.OK {
		t.Fatalf("Receive(%d, %+v) = %d", from, m, e)
	}
}

// ignores asks for a message to be taken without any change.
func ignores(t *testing.T, r *replica.Replica, from int, m api.Msg) {
	t.Helper()
	refuses(t, r, from, m, api.OK)
}

// refuses asks for an error of Receive, for nothing to change, and nothing to come out.
func refuses(t *testing.T, r *replica.Replica, from int, m api.Msg, want api.Errno) {
	t.Helper()
	leaves(t, r, fmt.Sprintf("Receive(%d, %+v)", from, m), want, func() api.Errno { return r.Receive(from, m) })
}

// leaves asks for what a call answers, and that it changes nothing.
func leaves(t *testing.T, r *replica.Replica, what string, want api.Errno, call func() api.Errno) {
	t.Helper()
	was := viewOf(r)
	if e := call(); e != want {
		t.Fatalf("%s = %d, want %d", what, e, want)
	}
	if is := viewOf(r); !reflect.DeepEqual(is, was) {
		t.Fatalf("%s made %+v of %+v", what, is, was)
	}
	takesNothing(t, r)
}

func proposes(t *testing.T, r *replica.Replica, c api.Cmd, want api.Inst) {
	t.Helper()
	if x, e := r.Propose(c); x != want || e != api.OK {
		t.Fatalf("Propose(%+v) = %v, %d, want %v", c, x, e, want)
	}
}

func recovers(t *testing.T, r *replica.Replica, x api.Inst) {
	t.Helper()
	if e := r.Recover(x); e != api.OK {
		t.Fatalf("Recover(%v) = %d", x, e)
	}
}

func timesOut(t *testing.T, r *replica.Replica, x api.Inst) {
	t.Helper()
	if e := r.Timeout(x); e != api.OK {
		t.Fatalf("Timeout(%v) = %d", x, e)
	}
}

// leadView is what Lead shows of an instance.
type leadView struct {
	Phase int
	Bal   api.Ballot
	Count int
}

// view is what a replica shows without giving anything out, its leads at a few instances.
type view struct {
	Slots []api.Slot
	Leads map[api.Inst]leadView
}

// nums are the numbers that come up in most tests.
func nums() []int {
	var out []int
	for num := range 25 {
		out = append(out, num+1)
	}
	return out
}

func viewOf(r *replica.Replica) view {
	v := view{Slots: bareSlots(r.Slots()), Leads: map[api.Inst]leadView{}}
	for row := -1; row <= 8; row++ {
		for _, num := range append(nums(), -1, 0, topNum-1, topNum, topNum+1) {
			if phase, b, count := r.Lead(in(row, num)); phase != 0 || b != bal(0, 0) || count != 0 {
				v.Leads[in(row, num)] = leadView{phase, b, count}
			}
		}
	}
	return v
}
