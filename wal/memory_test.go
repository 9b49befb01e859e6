package wal_test

import (
	"bytes"
	"slices"
	"testing"

	"moot/api"
	"moot/disk"
	"moot/wal"
)

// room is a list with much spare room, and the whole that it is cut out of.
func room[T any](list []T, mark T) (cut, whole []T) {
	whole = append([]T{mark}, list...)
	for range 40 {
		whole = append(whole, mark)
	}
	return whole[1 : 1+len(list)], whole
}

// spoil writes x over a list and its spare room.
func spoil[T any](list []T, x T) {
	list = list[:cap(list)]
	for i := range list {
		list[i] = x
	}
}

// spoilRecords writes over the vectors of the records, then over the list, spare room and all.
func spoilRecords(records []api.Record) {
	for _, r := range records {
		spoil(r.Deps, -1)
	}
	spoil(records, api.Record{Kind: 77, Deps: []int{7}})
}

// inputs are logs of replica 1 among 3, right, torn, rotten and others'.
func inputs() [][]byte {
	all := logOf(1, 3, append(sorts(3), recA, recB)...)
	return [][]byte{nil, frameH(), all, all[:len(all)-1], changed(all, 40, 1), headOf(2, 3), join(all, frameH()), []byte("garbage")}
}

// Data is left as it was, spare room too, by Scan and by whatever is written into its answer.
func TestP10_6DataIsLeft(t *testing.T) {
	for _, data := range inputs() {
		for _, synced := range []int{-1, 0, len(data), len(data) + 1} {
			for n := range 9 {
				cut, whole := room(data, 0xee)
				was := bytes.Clone(whole)
				records, _, _ := wal.Scan(cut, synced, 1, n)
				spoilRecords(records)
				if !bytes.Equal(whole, was) {
					t.Errorf("Scan of %d bytes, %d, among %d: the data or its spare room changed", len(data), synced, n)
				}
			}
		}
	}
}

// Bytes behind the data's end are none of it.
func TestP10_6SpareRoomIsNotRead(t *testing.T) {
	all := logOf(1, 3, recA, recB)
	scans(t, all[:len(all)-1], 22, 1, 3, []api.Record{recA}, 22, api.OK)
	scans(t, all[:22], 22, 1, 3, []api.Record{recA}, 22, api.OK)
	scans(t, all[:0], 0, 1, 3, nil, 0, api.ErrHead)
	scans(t, all[:22], 23, 1, 3, nil, 0, api.ErrArg)
}

// The records outlive the bytes that they were read from, and what is made of these later.
func TestP10_6DataIsNotKept(t *testing.T) {
	want := append(sorts(3), greatest(3), recA, recB)
	data := logOf(1, 3, want...)
	size := len(data)
	got, _, _ := wal.Scan(data, 0, 1, 3)
	spoil(data, 0xee)
	if !same(got, want) {
		t.Errorf("the records became %s with their bytes", list(got))
	}
	scans(t, data, 0, 1, 3, nil, 0, api.ErrHead)
	d := image(t, logOf(1, 3, want...), size)
	_, got, _, _ = wal.Recover(d, 1, 3)
	for at := range size {
		d.Rot(at, 0x5a)
	}
	d.Append(frameA())
	if !same(got, want) {
		t.Errorf("the records became %s with the disk", list(got))
	}
}

// own writes every vector full with a mark of its own, spare room and all: where two share memory a mark is lost.
func own(t *testing.T, vectors [][]int) {
	t.Helper()
	for i, v := range vectors {
		spoil(v, -1-i)
	}
	for i, v := range vectors {
		for _, x := range v[:cap(v)] {
			if x != -1-i {
				t.Errorf("vector %d shares memory with another", i)
				break
			}
		}
	}
}

// No two vectors of an answer, or of two answers, share memory; nor do two lists.
func TestP10_6ListsAreNewMemory(t *testing.T) {
	want := append(sorts(3), recA, recB, recB)
	data := logOf(1, 3, want...)
	d := image(t, data, 11)
	var lists [][]api.Record
	for range 3 {
		scanned, _, _ := wal.Scan(data, 0, 1, 3)
		_, recovered, _, _ := wal.Recover(d, 1, 3)
		lists = append(lists, scanned, recovered)
	}
	var vectors [][]int
	for i, l := range lists {
		for j := range lists {
			if i != j {
				_ = append(lists[j], api.Record{Kind: 88})
			}
		}
		if !same(l, want) {
			t.Errorf("list %d became %s", i, list(l))
		}
		for _, r := range l {
			vectors = append(vectors, r.Deps)
		}
	}
	own(t, vectors)
	for i, l := range lists {
		spoil(l, api.Record{Kind: 100 + i})
	}
	for i, l := range lists {
		for _, r := range l[:cap(l)] {
			if r.Kind != 100+i {
				t.Fatalf("list %d shares memory with another", i)
			}
		}
	}
	scans(t, data, 0, 1, 3, want, len(data), api.OK)
	shows(t, d, data, len(data))
}

// The disk and its log don't see what is written into what Recover handed out.
func TestP10_6RecoveredRecordsSpoilt(t *testing.T) {
	want := append(sorts(3), recA, recB)
	data := logOf(1, 3, want...)
	d := image(t, join(data, []byte("torn")), 11)
	l, records, _, _ := wal.Recover(d, 1, 3)
	spoilRecords(records)
	shows(t, d, data, len(data))
	appends(t, l, recB, api.OK)
	waits(t, l, 1)
	shows(t, d, join(data, frameB()), len(data))
	recovers(t, d, 1, 3, append(want, recB), len(data)+len(frameB()))
}

// What Append is given it leaves, spare room too, whether it takes it or not, and keeps none of it.
func TestP10_6AppendedRecords(t *testing.T) {
	given := append(sorts(3), recA, recB, headRecord(1, 3))
	for _, c := range refused() {
		given = append(given, c.r)
	}
	d := disk.New()
	l := creates(t, d, 1, 3)
	want := frameH()
	for _, r := range given {
		deps, whole := room(r.Deps, -77)
		r.Deps = deps
		was, numbers := r, slices.Clone(whole)
		e := l.Append(r)
		if !slices.Equal(whole, numbers) || !sameRecord(r, was) {
			t.Errorf("Append made %s of %s, %v of its list %v", short(r), short(was), whole, numbers)
		}
		if e == api.OK {
			want = append(want, framed(3, r)...)
		}
		spoil(whole, 5)
		shows(t, d, want, 11)
	}
	l.Sync()
	shows(t, d, want, len(want))
}

// What Look told of the disk stays, whatever the log does, and the log doesn't see what is written into it.
func TestP10_6LooksOfTheDisk(t *testing.T) {
	d := disk.New()
	l := creates(t, d, 1, 3)
	first, _ := d.Look()
	appends(t, l, recA, api.OK)
	second, _ := d.Look()
	appends(t, l, recB, api.OK)
	if !bytes.Equal(first, frameH()) || !bytes.Equal(second, logOf(1, 3, recA)) {
		t.Errorf("what was looked at became %x, %x", first, second)
	}
	spoil(first, 0xee)
	spoil(second, 0xee)
	all := logOf(1, 3, recA, recB)
	shows(t, d, all, 11)
	recovers(t, d, 1, 3, []api.Record{recA, recB}, len(all))
}

// What a call answers hangs on no call on another object.
func TestP10_6CallsDoNotSeeOneAnother(t *testing.T) {
	want := append(sorts(3), recA, recB)
	data := logOf(1, 3, want...)
	for _, other := range inputs() {
		wal.Scan(other, len(other), 1, 3)
		wal.Scan(other, 0, 0, 5)
		wal.Recover(image(t, other, 0), 1, 3)
		scans(t, data, 11, 1, 3, want, len(data), api.OK)
		recovers(t, image(t, data, 11), 1, 3, want, len(data))
		want, p, e := scanOf(other, 0, 1, 3)
		scans(t, other, 0, 1, 3, want, p, e)
	}
}
