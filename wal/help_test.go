package wal_test

import (
	"bytes"
	"fmt"
	"math"
	"reflect"
	"slices"
	"testing"

	"moot/api"
	"moot/disk"
	"moot/record"
	"moot/wal"
)

// topDisk is MaxDisk in the document's number.
const topDisk = 4194304

// dice throws the same numbers every time.
type dice uint64

func (d *dice) below(n int) int {
	*d = *d*6364136223846793005 + 1442695040888963407
	return int(uint64(*d>>33) % uint64(n))
}

func pick[T any](d *dice, from []T) T { return from[d.below(len(from))] }

// wild are ints far from all that may be, some of them with low bits that may be.
func wild() []int {
	return []int{255, 256, 257, 259, 1<<16 + 1, 1 << 32, 1<<32 + 1, 1<<32 + 3, -255, -256, -1 << 32, 3 - 1<<32, math.MinInt, math.MinInt + 1, math.MinInt + 3, math.MaxInt}
}

// near are the ints from -2 to 10, then the wild ones.
func near() []int {
	var out []int
	for i := -2; i <= 10; i++ {
		out = append(out, i)
	}
	return append(out, wild()...)
}

// eachLog goes over all sizes and ids that there are.
func eachLog(do func(id, n int)) {
	for n := 1; n <= 7; n++ {
		for id := range n {
			do(id, n)
		}
	}
}

func join(parts ...[]byte) []byte { return bytes.Join(parts, nil) }

// text is n bytes that are not all alike.
func text(n int) string {
	b := make([]byte, n)
	for i := range b {
		b[i] = byte(i*i + i>>8 + 'a')
	}
	return string(b)
}

// changed is b with the byte at a place turned by x.
func changed(b []byte, at int, x byte) []byte {
	out := bytes.Clone(b)
	out[at] ^= x
	return out
}

// The chapter's examples are of replica 1 among 3.
var (
	recA = api.Record{Kind: 2, Inst: api.Inst{Row: 1, Num: 4}, Bal: api.Ballot{Round: 2}}
	recB = api.Record{Kind: 5, Inst: api.Inst{Row: 0, Num: 1}, Cmd: api.Cmd{Kind: api.Get, Key: "k"}, Seq: 3, Deps: []int{0, 5, 5}}
)

func frameH() []byte { return headOf(1, 3) }

func frameA() []byte { return framed(3, recA) }

func frameB() []byte { return framed(3, recB) }

func headRecord(id, n int) api.Record { return api.Record{Kind: 1, Id: id, N: n} }

// headOf is the Head's frame, by the words of chapters 6 and 7.
func headOf(id, n int) []byte { return sealOf(2, []byte{1, byte(id), byte(n)}) }

// framed is a valid record's frame.
func framed(n int, r api.Record) []byte {
	payload, e := record.Encode(n, r)
	if e != api.OK {
		panic(fmt.Sprintf("Encode(%d, %s) = %d", n, short(r), e))
	}
	return sealOf(2, payload)
}

// logOf is the bytes of a log with these records.
func logOf(id, n int, records ...api.Record) []byte {
	b := headOf(id, n)
	for _, r := range records {
		b = append(b, framed(n, r)...)
	}
	return b
}

// endsOf are the places where the frames of that log end, the Head's first.
func endsOf(n int, records ...api.Record) []int {
	ends := []int{11}
	for _, r := range records {
		ends = append(ends, ends[len(ends)-1]+len(framed(n, r)))
	}
	return ends
}

// put is a Put with a value of that many bytes.
func put(size int) api.Cmd {
	return api.Cmd{Kind: api.Put, Client: 7, Req: 1, Key: "k", Val: text(size)}
}

// sorts are valid records of every sort but Heads, among n replicas.
func sorts(n int) []api.Record {
	x, first, third := api.Inst{Row: n - 1, Num: 5}, api.Ballot{Who: n - 1}, api.Ballot{Round: 3}
	deps, zeros := make([]int, n), make([]int, n)
	for i := range deps {
		deps[i] = 1000*i + 3
	}
	return []api.Record{
		{Kind: 2, Inst: x, Bal: third},
		{Kind: 2, Inst: api.Inst{Num: 1 << 20}, Bal: api.Ballot{Round: 65535, Who: n - 1}},
		{Kind: 3, Inst: x, Bal: first, Same: true, Cmd: put(1), Seq: 1, Deps: zeros},
		{Kind: 3, Inst: x, Bal: third, Cmd: api.Cmd{Kind: api.Move, Key: "k", Key2: "l"}, Seq: 1 << 30, Deps: deps},
		{Kind: 4, Inst: x, Bal: third, Deps: zeros},
		{Kind: 4, Inst: x, Bal: first, Cmd: put(200), Seq: 2, Deps: deps},
		{Kind: 5, Inst: x, Deps: zeros},
		{Kind: 5, Inst: x, Cmd: api.Cmd{Kind: api.Add, Key: "\x00", N: -1}, Seq: 3, Deps: deps},
	}
}

// greatest is a record of the greatest length.
func greatest(n int) api.Record {
	c := api.Cmd{Kind: api.Cas, Client: 65535, Req: 1 << 30, Key: text(64), Old: text(65536), Val: text(65536)}
	deps := make([]int, n)
	for i := range deps {
		deps[i] = 1<<20 - i%2
	}
	return api.Record{Kind: 3, Inst: api.Inst{Row: n - 1, Num: 1 << 20}, Bal: api.Ballot{Round: 65535, Who: n - 1}, Cmd: c, Seq: 1 << 30, Deps: deps}
}

// record is one of these with other numbers.
func (d *dice) record(n int) api.Record {
	r := pick(d, sorts(n))
	r.Inst.Num = 1 + pick(d, []int{0, 1, 126, 1<<20 - 1, d.below(1 << 20)})
	if r.Cmd.Kind != api.Noop {
		r.Seq = 1 + d.below(1<<30)
		r.Cmd.Req = d.below(1 << 30)
		for i := range r.Deps {
			r.Deps[i] = d.below(1 << 20)
		}
	}
	if r.Cmd.Kind == api.Put {
		r.Cmd.Val = text(d.below(300))
	}
	return r
}

func (d *dice) records(n, count int) []api.Record {
	var out []api.Record
	for range count {
		out = append(out, d.record(n))
	}
	return out
}

// sameRecord: a nil list and an empty one are the same.
func sameRecord(a, b api.Record) bool {
	if len(a.Deps) == 0 && len(b.Deps) == 0 {
		a.Deps, b.Deps = nil, nil
	}
	return reflect.DeepEqual(a, b)
}

func same(a, b []api.Record) bool { return slices.EqualFunc(a, b, sameRecord) }

func image(t *testing.T, data []byte, synced int) *disk.Disk {
	t.Helper()
	d, e := disk.Image(data, synced)
	if d == nil || e != api.OK {
		t.Fatalf("Image of %d bytes, %d: a disk: %v, %d", len(data), synced, d != nil, e)
	}
	return d
}

func shows(t *testing.T, d *disk.Disk, want []byte, mark int) {
	t.Helper()
	if b, m := d.Look(); !bytes.Equal(b, want) || m != mark {
		t.Errorf("the disk is %.60x (%d bytes), %d, want %.60x (%d bytes), %d", b, len(b), m, want, len(want), mark)
	}
}

func creates(t *testing.T, d *disk.Disk, id, n int) *wal.Log {
	t.Helper()
	l, e := wal.Create(d, id, n)
	if l == nil || e != api.OK {
		t.Fatalf("Create(%d, %d): a log: %v, %d", id, n, l != nil, e)
	}
	return l
}

func createFails(t *testing.T, d *disk.Disk, id, n int, want api.Errno) {
	t.Helper()
	if l, e := wal.Create(d, id, n); l != nil || e != want {
		t.Errorf("Create(%d, %d): a log: %v, %d, want nil, %d", id, n, l != nil, e, want)
	}
}

func appends(t *testing.T, l *wal.Log, r api.Record, want api.Errno) {
	t.Helper()
	if e := l.Append(r); e != want {
		t.Errorf("Append(%s) = %d, want %d", short(r), e, want)
	}
}

// waits asks twice: Waiting changes nothing.
func waits(t *testing.T, l *wal.Log, want int) {
	t.Helper()
	for range 2 {
		if got := l.Waiting(); got != want {
			t.Errorf("Waiting() = %d, want %d", got, want)
		}
	}
}

func scans(t *testing.T, data []byte, synced, id, n int, want []api.Record, place int, e api.Errno) {
	t.Helper()
	got, p, f := wal.Scan(data, synced, id, n)
	if !same(got, want) || p != place || f != e {
		t.Errorf("Scan(%.60x (%d bytes), %d, %d, %d) = %s, %d, %d, want %s, %d, %d", data, len(data), synced, id, n, list(got), p, f, list(want), place, e)
	}
}

// recovers asks for a log, the records and the place.
func recovers(t *testing.T, d *disk.Disk, id, n int, want []api.Record, place int) *wal.Log {
	t.Helper()
	l, got, p, e := wal.Recover(d, id, n)
	if l == nil || !same(got, want) || p != place || e != api.OK {
		t.Fatalf("Recover(%d, %d): a log: %v, %s, %d, %d, want %s, %d", id, n, l != nil, list(got), p, e, list(want), place)
	}
	return l
}

// recoverFails asks for the place and the error, and for the disk to stay.
func recoverFails(t *testing.T, d *disk.Disk, id, n, place int, want api.Errno) {
	t.Helper()
	var was []byte
	var mark int
	if d != nil {
		was, mark = d.Look()
	}
	l, got, p, e := wal.Recover(d, id, n)
	if l != nil || len(got) != 0 || p != place || e != want {
		t.Errorf("Recover(%d, %d): a log: %v, %s, %d, %d, want nil, none, %d, %d", id, n, l != nil, list(got), p, e, place, want)
	}
	if d != nil {
		shows(t, d, was, mark)
	}
}

// short tells a record without what is long in it.
func short(r api.Record) string {
	cut := func(s string) string { return fmt.Sprintf("%.8s(%d)", s, len(s)) }
	c := &r.Cmd
	c.Key, c.Key2, c.Val, c.Old = cut(c.Key), cut(c.Key2), cut(c.Val), cut(c.Old)
	return fmt.Sprintf("%+q", fmt.Sprintf("%+v", r))
}

func list(records []api.Record) string {
	s := fmt.Sprintf("%d records", len(records))
	for _, r := range records[:min(len(records), 3)] {
		s += " " + short(r)
	}
	return s
}
