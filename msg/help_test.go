package msg_test

import (
	"bytes"
	"fmt"
	"math"
	"reflect"
	"slices"
	"strings"
	"testing"

	"moot/api"
	"moot/msg"
	"moot/wire"
)

const (
	topNum   = 1 << 20
	topSeq   = 1 << 30
	topRound = 65535
)

// dice throws the same numbers every time.
type dice uint64

func (d *dice) below(n int) int {
	*d = *d*6364136223846793005 + 1442695040888963407
	return int(uint64(*d>>33) % uint64(n))
}

func pick[T any](d *dice, from []T) T { return from[d.below(len(from))] }

// fieldNames are the fields beside Kind and Inst.
func fieldNames() []string { return []string{"Bal", "VBal", "State", "Same", "Cmd", "Seq", "Deps"} }

// fieldsOf is the chapter's table once more, by names.
func fieldsOf(m api.Msg) []string {
	row := []string{"", "Bal Cmd Seq Deps", "Bal Seq Deps", "Bal Cmd Seq Deps", "Bal", "Cmd Seq Deps", "Bal", "Bal State", "Bal VBal", ""}[m.Kind]
	if m.Kind == 7 && m.State != 0 {
		row += " Same VBal Cmd Seq Deps"
	}
	return strings.Fields(row)
}

func has(m api.Msg, field string) bool { return slices.Contains(fieldsOf(m), field) }

// lastKind is the last one that version v has.
func lastKind(v int) int { return 7 + v }

// text is n bytes that are not all alike.
func text(n int) string {
	b := make([]byte, n)
	for i := range b {
		b[i] = byte(i*i + 'a')
	}
	return string(b)
}

func filled(n, x int) []int { return slices.Repeat([]int{x}, n) }

var (
	put  = api.Cmd{Kind: api.Put, Client: 7, Req: 1, Key: "k", Val: "v"}
	move = api.Cmd{Kind: api.Move, Key: "k", Key2: "l"}
	// great is the longest command of version 2.
	great = api.Cmd{Kind: api.Cas, Client: 65535, Req: 1 << 30, Key: text(64), Old: text(65536), Val: text(65536)}
)

// example is a valid message of a kind among n replicas, of the last one's row; of kind 7 a vote of that state.
func example(kind, state, n int) api.Msg {
	m := api.Msg{Kind: kind, Inst: api.Inst{Row: n - 1, Num: 5}}
	if kind == 7 {
		m.State = state
	}
	if has(m, "Bal") {
		m.Bal = api.Ballot{Round: 2}
	}
	if kind == 7 && has(m, "VBal") {
		m.VBal = api.Ballot{Round: 1}
	}
	if kind == 8 {
		m.VBal = api.Ballot{Round: 3, Who: n - 1}
	}
	if has(m, "Cmd") {
		m.Cmd = put
	}
	if has(m, "Seq") {
		m.Seq, m.Deps = 2, filled(n, 3)
	}
	return m
}

// examples are one valid message of each set of fields that there is, among n replicas: kind 7 comes with each state.
func examples(n int) []api.Msg {
	var out []api.Msg
	for kind := 1; kind <= 9; kind++ {
		out = append(out, example(kind, 0, n))
		if kind == 7 {
			out = append(out, example(kind, 1, n), example(kind, 2, n))
		}
	}
	return out
}

// noopOf is the message with a noop in its command's place.
func noopOf(m api.Msg) api.Msg {
	m.Cmd, m.Seq, m.Deps = api.Cmd{}, 0, filled(len(m.Deps), 0)
	return m
}

// sameOf is a PrepareOK with a vote that is the same.
func sameOf(m api.Msg) api.Msg {
	m.Same, m.VBal = true, api.Ballot{Who: m.Inst.Row}
	return m
}

func (d *dice) number(most int) int {
	return min(most, pick(d, []int{0, 1, 2, 127, 128, 16383, 16384, most - 1, most, d.below(most + 1)}))
}

// ballot is one of the instance x, from a round on.
func (d *dice) ballot(n, least int, x api.Inst) api.Ballot {
	b := api.Ballot{Round: max(least, d.number(topRound)), Who: d.below(n)}
	if b.Round == 0 {
		b.Who = x.Row
	}
	return b
}

// command is a valid one of version v; it may be a noop.
func (d *dice) command(v int) api.Cmd {
	kind := d.below(4 + 3*v)
	kind = min(kind, 2+3*v)
	if kind == 0 {
		return api.Cmd{}
	}
	c := api.Cmd{Kind: kind, Client: d.number(65535), Req: d.number(1 << 30), Key: text(1 + d.below(64))}
	switch kind {
	case api.Put:
		c.Val = text(d.below(300))
	case api.Add:
		c.N = pick(d, []int64{0, 1, -1, math.MinInt64, math.MaxInt64})
	case api.Cas:
		c.Val, c.Old = text(d.below(3)), text(pick(d, []int{0, 1, 1024, 512 * v * v}))
	case api.Move, api.Copy, api.Count:
		c.Key2 = "\xff" + text(d.below(64))
	}
	return c
}

func (d *dice) deps(n int) []int {
	out := make([]int, n)
	for i := range out {
		out[i] = pick(d, []int{0, 5, d.number(topNum)})
	}
	return out
}

// vote gives a PrepareOK of a round above 0 its vote.
func (d *dice) vote(n int, m api.Msg) api.Msg {
	m.VBal = api.Ballot{Who: m.Inst.Row}
	if d.below(2) == 0 {
		m.VBal = d.ballot(n, 0, m.Inst)
	}
	if !ballotBelow(m.VBal, m.Bal) {
		m.VBal, m.Bal = m.Bal, m.VBal
	}
	if m.VBal == m.Bal {
		m.VBal = api.Ballot{Who: m.Inst.Row}
	}
	m.Same = m.State == 1 && m.VBal.Round == 0 && d.below(2) == 0
	return m
}

// message is a valid one at version v among n replicas.
func (d *dice) message(v, n int) api.Msg {
	m := api.Msg{Kind: 1 + d.below(lastKind(v)), Inst: api.Inst{Row: d.below(n), Num: max(1, d.number(topNum))}}
	if m.Kind == 7 {
		m.State = d.below(3)
	}
	if has(m, "Bal") {
		m.Bal = d.ballot(n, leastRound(m.Kind), m.Inst)
	}
	switch {
	case m.Kind == 7 && m.State > 0:
		m = d.vote(n, m)
	case m.Kind == 8:
		m.Bal.Round = min(m.Bal.Round, topRound-1)
		m.VBal = api.Ballot{Round: m.Bal.Round + 1, Who: d.below(n)}
	}
	if has(m, "Seq") {
		m.Seq, m.Deps = max(1, d.number(topSeq)), d.deps(n)
	}
	if has(m, "Cmd") {
		m.Cmd = d.command(v)
	}
	if has(m, "Cmd") && m.Cmd.Kind == 0 {
		m = noopOf(m)
		if m.Kind == 1 || m.Kind == 7 && m.State == 1 {
			m.Cmd, m.Seq = put, 1
		}
	}
	return m
}

// leastRound is that of a kind's Bal.
func leastRound(kind int) int {
	if kind == 6 || kind == 7 {
		return 1
	}
	return 0
}

func ballotBelow(a, b api.Ballot) bool {
	return slices.Compare([]int{a.Round, a.Who}, []int{b.Round, b.Who}) < 0
}

func noVersions() []int {
	return []int{0, 3, -1, -2, 4, 255, 256, 257, 258, 1<<32 + 1, 1<<32 + 2, math.MinInt, math.MaxInt}
}

func noSizes() []int {
	return []int{0, 8, -1, -3, 9, 16, 255, 256, 259, 1<<32 + 3, math.MinInt, math.MaxInt}
}

// noKinds are numbers that are no kind at any version.
func noKinds() []int {
	return []int{0, 10, -1, -2, -9, 11, 15, 16, 17, 64, 127, 128, 255, 256, 257, 260, 1 << 32, 1<<32 + 4, math.MinInt, math.MaxInt}
}

// greatNumbers are those around every power of two.
func greatNumbers() []uint64 {
	var out []uint64
	for i := range 64 {
		out = append(out, uint64(1)<<i-1, uint64(1)<<i, uint64(1)<<i+1, math.MaxUint64-uint64(i))
	}
	slices.Sort(out)
	return slices.Compact(out)
}

func join(parts ...[]byte) []byte { return bytes.Join(parts, nil) }

// run is n times the byte b, then the tail.
func run(b byte, n int, tail ...byte) []byte { return append(bytes.Repeat([]byte{b}, n), tail...) }

func number(x uint64) []byte { return wire.PutUint(x) }

// same: a nil list and an empty one are the same.
func same(a, b api.Msg) bool {
	if len(a.Deps) == 0 && len(b.Deps) == 0 {
		a.Deps, b.Deps = nil, nil
	}
	return reflect.DeepEqual(a, b)
}

func encoded(t *testing.T, v, n int, m api.Msg) []byte {
	t.Helper()
	b, e := msg.Encode(v, n, m)
	if e != api.OK {
		t.Fatalf("Encode(%d, %d, %s) = %d", v, n, short(m), e)
	}
	return b
}

func checks(t *testing.T, v, n int, m api.Msg, want api.Errno) {
	t.Helper()
	if e := msg.Check(v, n, m); e != want {
		t.Errorf("Check(%d, %d, %s) = %d, want %d", v, n, short(m), e, want)
	}
}

// checksBoth asks both versions, where the kind is one of both.
func checksBoth(t *testing.T, n int, m api.Msg, want api.Errno) {
	t.Helper()
	checks(t, 2, n, m, want)
	if m.Kind <= lastKind(1) {
		checks(t, 1, n, m, want)
	} else {
		checks(t, 1, n, m, api.ErrMsgKind)
	}
}

func decodes(t *testing.T, v, n int, b []byte, want api.Msg, fault api.Errno) {
	t.Helper()
	if m, e := msg.Decode(v, n, b); !same(m, want) || e != fault {
		t.Errorf("Decode(%d, %d, %.60x) = %s, %d, want %s, %d", v, n, b, short(m), e, short(want), fault)
	}
}

func refuses(t *testing.T, v, n int, b []byte, fault api.Errno) {
	t.Helper()
	decodes(t, v, n, b, api.Msg{}, fault)
}

// short tells a message without its long texts.
func short(m api.Msg) string {
	cut := func(s string) string {
		if len(s) > 12 {
			return fmt.Sprintf("%s.. (%d bytes)", s[:12], len(s))
		}
		return s
	}
	c := &m.Cmd
	c.Key, c.Key2, c.Val, c.Old = cut(c.Key), cut(c.Key2), cut(c.Val), cut(c.Old)
	return fmt.Sprintf("%+q", fmt.Sprintf("%+v", m))
}
