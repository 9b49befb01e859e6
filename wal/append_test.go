package wal_test

import (
	"testing"

	"moot/api"
	"moot/disk"
	"moot/record"
)

func TestP10_2EverySort(t *testing.T) {
	eachLog(func(id, n int) {
		d := disk.New()
		l := creates(t, d, id, n)
		want := headOf(id, n)
		for i, r := range append(sorts(n), greatest(n)) {
			appends(t, l, r, api.OK)
			want = append(want, framed(n, r)...)
			shows(t, d, want, 11)
			waits(t, l, i+1)
		}
	})
}

func TestP10_2ExampleBytes(t *testing.T) {
	d := disk.New()
	l := creates(t, d, 1, 3)
	appends(t, l, recA, api.OK)
	shows(t, d, join(frameH(), []byte{0x4d, 0x54, 2, 3, 2, 0x21, 0x10, 0x89, 0x9d, 0xa2, 0x1f}), 11)
}

// refused are records that chapter 6 refuses among 3 replicas, each with its error.
func refused() []struct {
	r api.Record
	e api.Errno
} {
	with := func(change func(r *api.Record)) api.Record {
		r := recB
		change(&r)
		return r
	}
	promise := func(row, num, round, who int) api.Record {
		return api.Record{Kind: 2, Inst: api.Inst{Row: row, Num: num}, Bal: api.Ballot{Round: round, Who: who}}
	}
	return []struct {
		r api.Record
		e api.Errno
	}{
		{api.Record{}, api.ErrRecKind}, {api.Record{Kind: 6}, api.ErrRecKind}, {api.Record{Kind: -1}, api.ErrRecKind}, {api.Record{Kind: 1<<32 + 2}, api.ErrRecKind},
		{with(func(r *api.Record) { r.Same = true }), api.ErrRecExtra}, {with(func(r *api.Record) { r.N = 3 }), api.ErrRecExtra},
		{promise(3, 4, 2, 0), api.ErrRecInst}, {promise(1, 0, 2, 0), api.ErrRecInst}, {promise(1, 1<<20+1, 2, 0), api.ErrRecInst},
		{promise(1, 4, 0, 1), api.ErrRecBallot}, {promise(1, 4, 2, 3), api.ErrRecBallot}, {promise(1, 4, 65536, 0), api.ErrRecBallot},
		{api.Record{Kind: 3, Inst: recB.Inst, Bal: api.Ballot{Round: 1}, Same: true, Cmd: recB.Cmd, Seq: 1, Deps: recB.Deps}, api.ErrRecSame},
		{api.Record{Kind: 3, Inst: recB.Inst, Deps: []int{0, 0, 0}}, api.ErrRecAttr},
		{with(func(r *api.Record) { r.Seq = 0 }), api.ErrRecAttr}, {with(func(r *api.Record) { r.Deps = []int{0, 5} }), api.ErrRecAttr}, {with(func(r *api.Record) { r.Deps = nil }), api.ErrRecAttr},
		{with(func(r *api.Record) { r.Cmd.Key = "" }), api.ErrKey}, {with(func(r *api.Record) { r.Cmd.Kind = 9 }), api.ErrKind}, {with(func(r *api.Record) { r.Cmd.Val = "v" }), api.ErrField},
		{with(func(r *api.Record) { r.Cmd = put(65537) }), api.ErrVal},
		{headRecord(0, 0), api.ErrRecHead}, {headRecord(0, 8), api.ErrRecHead}, {headRecord(-1, 3), api.ErrRecHead}, {headRecord(3, 3), api.ErrRecHead},
		{api.Record{Kind: 1, Id: 1, N: 3, Seq: 1}, api.ErrRecExtra}, {api.Record{Kind: 1, Id: 1, N: 3, Deps: []int{0, 0, 0}}, api.ErrRecExtra},
	}
}

func TestP10_2RefusedRecords(t *testing.T) {
	d := disk.New()
	l := creates(t, d, 1, 3)
	appends(t, l, recA, api.OK)
	for _, c := range refused() {
		if e := record.Check(3, c.r); e != c.e {
			t.Errorf("Check(3, %s) = %d, want %d", short(c.r), e, c.e)
		}
		appends(t, l, c.r, c.e)
		shows(t, d, logOf(1, 3, recA), 11)
		waits(t, l, 1)
	}
	appends(t, l, recB, api.OK)
	shows(t, d, logOf(1, 3, recA, recB), 11)
}

// A Head that is valid is a second one, whoever's it is.
func TestP10_2SecondHeads(t *testing.T) {
	eachLog(func(id, n int) {
		d := disk.New()
		l := creates(t, d, id, n)
		eachLog(func(other, size int) { appends(t, l, headRecord(other, size), api.ErrSecond) })
		shows(t, d, headOf(id, n), 11)
		waits(t, l, 0)
	})
}

// Records are held against the log's own n, that of Create or that of Recover.
func TestP10_2RecordsOfAnotherSize(t *testing.T) {
	for n := 1; n <= 7; n++ {
		d := disk.New()
		l := creates(t, d, 0, n)
		m := recovers(t, d, 0, n, nil, 11)
		for other := 1; other <= 7; other++ {
			for _, r := range sorts(other) {
				want := record.Check(n, r)
				was, _ := d.Look()
				appends(t, l, r, want)
				appends(t, m, r, want)
				if want != api.OK {
					shows(t, d, was, 11)
				}
			}
		}
	}
}

// A disk that just takes the frame, and one that lacks a byte.
func TestP10_2FullDisks(t *testing.T) {
	for _, r := range append(sorts(3), greatest(3)) {
		size := len(framed(3, r))
		for _, free := range []int{0, 1, size - 1, size, size + 1} {
			d := disk.New()
			l := creates(t, d, 1, 3)
			d.Append([]byte(text(topDisk - 11 - free)))
			was, _ := d.Look()
			if free < size {
				appends(t, l, r, api.ErrFull)
				shows(t, d, was, 11)
				waits(t, l, 0)
				continue
			}
			appends(t, l, r, api.OK)
			shows(t, d, join(was, framed(3, r)), 11)
			waits(t, l, 1)
			appends(t, l, r, api.ErrFull)
			waits(t, l, 1)
		}
	}
}

// What is amiss with the record is told ahead of what is amiss with the disk.
func TestP10_2RecordAheadOfDisk(t *testing.T) {
	d := disk.New()
	l := creates(t, d, 1, 3)
	d.Append(make([]byte, topDisk-11))
	was, _ := d.Look()
	for _, c := range refused() {
		appends(t, l, c.r, c.e)
	}
	appends(t, l, headRecord(1, 3), api.ErrSecond)
	appends(t, l, recA, api.ErrFull)
	shows(t, d, was, 11)
	waits(t, l, 0)
}

// A log that grew till its disk was full: a shorter record may still go in, and all is found again.
func TestP10_2FilledByRecords(t *testing.T) {
	d := disk.New()
	l := creates(t, d, 1, 3)
	var all []api.Record
	for l.Append(greatest(3)) == api.OK {
		all = append(all, greatest(3))
	}
	if len(all) != (topDisk-11)/len(framed(3, greatest(3))) {
		t.Fatalf("%d of the greatest records went in", len(all))
	}
	waits(t, l, len(all))
	shows(t, d, logOf(1, 3, all...), 11)
	appends(t, l, recB, api.OK)
	all = append(all, recB)
	l.Sync()
	appends(t, l, greatest(3), api.ErrFull)
	recovers(t, d, 1, 3, all, len(logOf(1, 3, all...)))
}

// The frame lies behind the disk's bytes, whatever was done to these from outside.
func TestP10_2BehindTheDisksBytes(t *testing.T) {
	d := disk.New()
	l := creates(t, d, 1, 3)
	appends(t, l, recA, api.OK)
	d.Crash(4)
	appends(t, l, recB, api.OK)
	torn := join(frameH(), frameA()[:4], frameB())
	shows(t, d, torn, 11)
	d.Cut(11)
	appends(t, l, recB, api.OK)
	shows(t, d, logOf(1, 3, recB), 11)
	d.Append([]byte("xyz"))
	appends(t, l, recA, api.OK)
	shows(t, d, join(logOf(1, 3, recB), []byte("xyz"), frameA()), 11)
	d.Rot(0, 1)
	appends(t, l, recA, api.OK)
	shows(t, d, changed(join(logOf(1, 3, recB), []byte("xyz"), frameA(), frameA()), 0, 1), 11)
}

func TestP10_3Example(t *testing.T) {
	d := disk.New()
	l := creates(t, d, 1, 3)
	appends(t, l, recA, api.OK)
	appends(t, l, recB, api.OK)
	waits(t, l, 2)
	l.Sync()
	waits(t, l, 0)
	all := logOf(1, 3, recA, recB)
	shows(t, d, all, len(all))
}

func TestP10_3Waiting(t *testing.T) {
	d := disk.New()
	l := creates(t, d, 1, 3)
	waits(t, l, 0)
	l.Sync()
	waits(t, l, 0)
	for i := range 5 {
		appends(t, l, recA, api.OK)
		waits(t, l, i+1)
		appends(t, l, api.Record{}, api.ErrRecKind)
		appends(t, l, headRecord(1, 3), api.ErrSecond)
		waits(t, l, i+1)
	}
	l.Sync()
	waits(t, l, 0)
	l.Sync()
	waits(t, l, 0)
	appends(t, l, recB, api.OK)
	waits(t, l, 1)
	m := recovers(t, d, 1, 3, []api.Record{recA, recA, recA, recA, recA, recB}, len(logOf(1, 3, recA, recA, recA, recA, recA, recB)))
	waits(t, m, 0)
	waits(t, l, 1)
}

// What is done to the disk from outside is not counted.
func TestP10_3LooksAtNothingElse(t *testing.T) {
	d := disk.New()
	l := creates(t, d, 1, 3)
	appends(t, l, recA, api.OK)
	appends(t, l, recB, api.OK)
	for _, outside := range []func(){
		func() { d.Append(frameA()) },
		func() { d.Crash(5) },
		func() { d.Cut(12) },
		func() { d.Crash(0) },
		func() { d.Rot(3, 1) },
		func() { d.Append(make([]byte, topDisk-11)) },
		func() { appends(t, l, recA, api.ErrFull) },
		func() { d.Sync() },
	} {
		outside()
		waits(t, l, 2)
	}
	l.Sync()
	waits(t, l, 0)
}

// Sync syncs the disk as it is, appended through this log or not.
func TestP10_3SyncsTheDisk(t *testing.T) {
	d := disk.New()
	l := creates(t, d, 1, 3)
	d.Append([]byte("xyz"))
	l.Sync()
	shows(t, d, join(frameH(), []byte("xyz")), 14)
	appends(t, l, recA, api.OK)
	d.Crash(3)
	l.Sync()
	shows(t, d, join(frameH(), []byte("xyz"), frameA()[:3]), 17)
	waits(t, l, 0)
}

// Two logs on one disk count each for itself.
func TestP10_3TwoLogsOnOneDisk(t *testing.T) {
	d := disk.New()
	l := creates(t, d, 1, 3)
	appends(t, l, recA, api.OK)
	m := recovers(t, d, 1, 3, []api.Record{recA}, 22)
	appends(t, m, recB, api.OK)
	appends(t, m, recB, api.OK)
	waits(t, l, 1)
	waits(t, m, 2)
	l.Sync()
	waits(t, l, 0)
	waits(t, m, 2)
	appends(t, l, recA, api.OK)
	m.Sync()
	waits(t, l, 1)
	waits(t, m, 0)
	all := logOf(1, 3, recA, recB, recB, recA)
	shows(t, d, all, len(all))
}
