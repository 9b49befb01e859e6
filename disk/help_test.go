package disk_test

import (
	"bytes"
	"math"
	"strings"
	"testing"

	"moot/api"
	"moot/disk"
)

// topDisk is MaxDisk in the document's number.
const topDisk = 4194304

// dice throws the same numbers every time.
type dice uint64

func (d *dice) below(n int) int {
	*d = *d*6364136223846793005 + 1442695040888963407
	return int(uint64(*d>>33) % uint64(n))
}

func pick[T any](d *dice, from []T) T { return from[d.below(len(from))] }

// text is n bytes of all values.
func (d *dice) text(n int) string {
	b := make([]byte, n)
	for i := range b {
		b[i] = byte(d.below(256))
	}
	return string(b)
}

// long is n bytes in which no two places near each other have the same neighbours.
func long(n int) string {
	b := make([]byte, n)
	for i := range b {
		b[i] = byte(i + i>>8 + i>>16)
	}
	return string(b)
}

// wild are ints far from all that may be, some of them with low bits that may be.
func wild() []int {
	return []int{1<<16 + 1, topDisk + 2, 1 << 32, 1<<32 + 1, 1<<32 + 3, -2, -255, -256, -1 << 32, 1 - 1<<32, math.MinInt, math.MinInt + 1, math.MinInt + 3, math.MaxInt - 2, math.MaxInt}
}

func image(t *testing.T, data string, synced int) *disk.Disk {
	t.Helper()
	d, e := disk.Image([]byte(data), synced)
	if d == nil || e != api.OK {
		t.Fatalf("Image of %d bytes, %d: a disk: %v, %d", len(data), synced, d != nil, e)
	}
	return d
}

func noImage(t *testing.T, data []byte, synced int, want api.Errno) {
	t.Helper()
	if d, e := disk.Image(data, synced); d != nil || e != want {
		t.Errorf("Image of %d bytes, %d: a disk: %v, %d, want nil, %d", len(data), synced, d != nil, e, want)
	}
}

// shows asks twice: looking changes nothing.
func shows(t *testing.T, d *disk.Disk, want string, mark int) {
	t.Helper()
	for range 2 {
		if b, m := d.Look(); string(b) != want || m != mark {
			t.Errorf("Look() = %.40q (%d bytes), %d, want %.40q (%d bytes), %d", b, len(b), m, want, len(want), mark)
		}
	}
}

func appends(t *testing.T, d *disk.Disk, b string, want api.Errno) {
	t.Helper()
	if e := d.Append([]byte(b)); e != want {
		t.Errorf("Append(%.40q, %d bytes) = %d, want %d", b, len(b), e, want)
	}
}

func crashes(t *testing.T, d *disk.Disk, keep int, want api.Errno) {
	t.Helper()
	if e := d.Crash(keep); e != want {
		t.Errorf("Crash(%d) = %d, want %d", keep, e, want)
	}
}

func cuts(t *testing.T, d *disk.Disk, size int, want api.Errno) {
	t.Helper()
	if e := d.Cut(size); e != want {
		t.Errorf("Cut(%d) = %d, want %d", size, e, want)
	}
}

func rots(t *testing.T, d *disk.Disk, at, x int, want api.Errno) {
	t.Helper()
	if e := d.Rot(at, x); e != want {
		t.Errorf("Rot(%d, %d) = %d, want %d", at, x, e, want)
	}
}

// spoil writes x over a list and its spare room.
func spoil(list []byte, x byte) {
	list = list[:cap(list)]
	for i := range list {
		list[i] = x
	}
}

// room is bytes with much spare room, and the whole that they are cut out of.
func room(b string) (cut, whole []byte) {
	whole = []byte("\xee" + b + strings.Repeat("\xee", 90))
	return whole[1 : 1+len(b)], whole
}

// checkOwn writes every list full with a mark of its own, spare room and all: where two share memory a mark is lost.
func checkOwn(t *testing.T, lists [][]byte) {
	t.Helper()
	if len(lists) > 256 {
		t.Fatalf("%d lists are too many for a mark each", len(lists))
	}
	for i, l := range lists {
		spoil(l, byte(i))
	}
	for i, l := range lists {
		if n := cap(l); bytes.Count(l[:n], []byte{byte(i)}) != n {
			t.Errorf("list %d shares memory with another", i)
		}
	}
}
