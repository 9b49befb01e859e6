package record_test

import (
	"bytes"
	"encoding/hex"
	"fmt"
	"math"
	"reflect"
	"slices"
	"strings"
	"testing"

	"moot/api"
	"moot/record"
	"moot/wire"
)

const (
	topNum   = 1 << 20
	topSeq   = 1 << 30
	topRound = 65535
)

// dice throws the same numbers every time.
type dice uint64

func (d *dice) below(n int) int {
	*d = *d*6364136223846793005 + 1442695040888963407
	return int(uint64(*d>>33) % uint64(n))
}

func pick[T any](d *dice, from []T) T { return from[d.below(len(from))] }

// fieldNames are the fields beside Kind.
func fieldNames() []string {
	return []string{"Id", "N", "Inst", "Bal", "Same", "Cmd", "Seq", "Deps"}
}

// has is the chapter's table once more, by names.
func has(kind int, field string) bool {
	row := []string{"", "Id N", "Inst Bal", "Inst Bal Same Cmd Seq Deps", "Inst Bal Cmd Seq Deps", "Inst Cmd Seq Deps"}[kind]
	return slices.Contains(strings.Fields(row), field)
}

// text is n bytes that are not all alike.
func text(n int) string {
	b := make([]byte, n)
	for i := range b {
		b[i] = byte(i*i + 'a')
	}
	return string(b)
}

func filled(n, x int) []int { return slices.Repeat([]int{x}, n) }

var (
	put  = api.Cmd{Kind: api.Put, Client: 7, Req: 1, Key: "k", Val: "v"}
	get  = api.Cmd{Kind: api.Get, Key: "k"}
	move = api.Cmd{Kind: api.Move, Key: "k", Key2: "l"}
	// great is the longest command.
	great = api.Cmd{Kind: api.Cas, Client: 65535, Req: 1 << 30, Key: text(64), Old: text(65536), Val: text(65536)}
)

// example is a valid record of a kind among n replicas, of the last one's row.
func example(kind, n int) api.Record {
	r := api.Record{Kind: kind}
	if kind == 1 {
		r.Id, r.N = n-1, n
		return r
	}
	r.Inst = api.Inst{Row: n - 1, Num: 5}
	if has(kind, "Bal") {
		r.Bal = api.Ballot{Round: 2}
	}
	if has(kind, "Cmd") {
		r.Cmd, r.Seq, r.Deps = put, 2, filled(n, 3)
	}
	return r
}

// examples are one valid record of each kind among n replicas.
func examples(n int) []api.Record {
	var out []api.Record
	for kind := 1; kind <= 5; kind++ {
		out = append(out, example(kind, n))
	}
	return out
}

// commanded are those with a command.
func commanded(n int) []api.Record { return examples(n)[2:] }

// balloted are those with a ballot.
func balloted(n int) []api.Record { return examples(n)[1:4] }

// noopOf is the record with a noop in its command's place.
func noopOf(r api.Record) api.Record {
	r.Cmd, r.Seq, r.Deps = api.Cmd{}, 0, filled(len(r.Deps), 0)
	return r
}

// sameOf is a vote that is the same.
func sameOf(r api.Record) api.Record {
	r.Same, r.Bal = true, api.Ballot{Who: r.Inst.Row}
	return r
}

// sorts are valid records of every sort among n replicas.
func sorts(n int) []api.Record {
	early := example(4, n)
	early.Bal = api.Ballot{Who: n - 1}
	return append(examples(n), sameOf(example(3, n)), early, noopOf(early), noopOf(example(4, n)), noopOf(example(5, n)))
}

func (d *dice) number(most int) int {
	return min(most, pick(d, []int{0, 1, 2, 127, 128, 16383, 16384, most - 1, most, d.below(most + 1)}))
}

// ballot is one of the row, from a round on.
func (d *dice) ballot(n, least, row int) api.Ballot {
	b := api.Ballot{Round: max(least, d.number(topRound)), Who: d.below(n)}
	if b.Round == 0 {
		b.Who = row
	}
	return b
}

// command is a valid one; it may be a noop.
func (d *dice) command() api.Cmd {
	kind := d.below(9)
	if kind == 0 {
		return api.Cmd{}
	}
	c := api.Cmd{Kind: kind, Client: d.number(65535), Req: d.number(1 << 30), Key: text(1 + d.below(64))}
	switch kind {
	case api.Put:
		c.Val = text(d.below(300))
	case api.Add:
		c.N = pick(d, []int64{0, 1, -1, math.MinInt64, math.MaxInt64})
	case api.Cas:
		c.Val, c.Old = text(d.below(3)), text(pick(d, []int{0, 1, 1024, 2000}))
	case api.Move, api.Copy, api.Count:
		c.Key2 = "\xff" + text(d.below(64))
	}
	return c
}

func (d *dice) deps(n int) []int {
	out := make([]int, n)
	for i := range out {
		out[i] = pick(d, []int{0, 5, d.number(topNum)})
	}
	return out
}

// record is a valid one among n replicas.
func (d *dice) record(n int) api.Record {
	r := api.Record{Kind: 1 + d.below(5)}
	if r.Kind == 1 {
		r.N = 1 + d.below(7)
		r.Id = d.below(r.N)
		return r
	}
	r.Inst = api.Inst{Row: d.below(n), Num: max(1, d.number(topNum))}
	if has(r.Kind, "Bal") {
		r.Bal = d.ballot(n, map[int]int{2: 1}[r.Kind], r.Inst.Row)
	}
	r.Same = r.Kind == 3 && r.Bal.Round == 0 && d.below(2) == 0
	if !has(r.Kind, "Cmd") {
		return r
	}
	r.Cmd, r.Seq, r.Deps = d.command(), max(1, d.number(topSeq)), d.deps(n)
	if r.Cmd.Kind == 0 && r.Kind == 3 {
		r.Cmd = get
	}
	if r.Cmd.Kind == 0 {
		r = noopOf(r)
	}
	return r
}

func noSizes() []int {
	return []int{0, 8, -1, -3, 9, 16, 255, 256, 259, 1<<32 + 3, math.MinInt, math.MaxInt}
}

func noKinds() []int {
	return []int{0, 6, -1, -2, -5, 7, 8, 9, 16, 127, 128, 255, 256, 257, 261, 1 << 32, 1<<32 + 4, math.MinInt, math.MaxInt}
}

// greatNumbers are those around every power of two.
func greatNumbers() []uint64 {
	var out []uint64
	for i := range 64 {
		out = append(out, uint64(1)<<i-1, uint64(1)<<i, uint64(1)<<i+1, math.MaxUint64-uint64(i))
	}
	slices.Sort(out)
	return slices.Compact(out)
}

func join(parts ...[]byte) []byte { return bytes.Join(parts, nil) }

// run is n times the byte b, then the tail.
func run(b byte, n int, tail ...byte) []byte { return append(bytes.Repeat([]byte{b}, n), tail...) }

func number(x uint64) []byte { return wire.PutUint(x) }

// raw is what hex stands for.
func raw(s string) []byte {
	b, err := hex.DecodeString(strings.NewReplacer(" ", "", "·", "", "Put", "020701016B0176").Replace(s))
	if err != nil {
		panic(err)
	}
	return b
}

// same: a nil list and an empty one are the same.
func same(a, b api.Record) bool {
	if len(a.Deps) == 0 && len(b.Deps) == 0 {
		a.Deps, b.Deps = nil, nil
	}
	return reflect.DeepEqual(a, b)
}

func encoded(t *testing.T, n int, r api.Record) []byte {
	t.Helper()
	b, e := record.Encode(n, r)
	if e != api.OK {
		t.Fatalf("Encode(%d, %s) = %d", n, short(r), e)
	}
	return b
}

func checks(t *testing.T, n int, r api.Record, want api.Errno) {
	t.Helper()
	if e := record.Check(n, r); e != want {
		t.Errorf("Check(%d, %s) = %d, want %d", n, short(r), e, want)
	}
}

// holds asks Check for OK if ok, else for that error.
func holds(t *testing.T, n int, r api.Record, ok bool, fault api.Errno) {
	t.Helper()
	if ok {
		fault = api.OK
	}
	checks(t, n, r, fault)
}

func decodes(t *testing.T, n int, b []byte, want api.Record) {
	t.Helper()
	if r, e := record.Decode(n, b); !same(r, want) || e != api.OK {
		t.Errorf("Decode(%d, %.60x) = %s, %d, want %s", n, b, short(r), e, short(want))
	}
}

func refuses(t *testing.T, n int, b []byte, fault api.Errno) {
	t.Helper()
	if r, e := record.Decode(n, b); !same(r, api.Record{}) || e != fault {
		t.Errorf("Decode(%d, %.60x) = %s, %d, want the error %d", n, b, short(r), e, fault)
	}
}

// short tells a record without its long texts.
func short(r api.Record) string {
	cut := func(s string) string {
		if len(s) > 12 {
			return fmt.Sprintf("%s.. (%d bytes)", s[:12], len(s))
		}
		return s
	}
	c := &r.Cmd
	c.Key, c.Key2, c.Val, c.Old = cut(c.Key), cut(c.Key2), cut(c.Val), cut(c.Old)
	return fmt.Sprintf("%+q", fmt.Sprintf("%+v", r))
}
