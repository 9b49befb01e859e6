package wal_test

import (
	"testing"

	"moot/api"
	"moot/disk"
)

// whoFault is what is amiss with id and n, by the chapter's word.
func whoFault(id, n int) api.Errno {
	if n < 1 || n > 7 {
		return api.ErrSize
	}
	if id < 0 || id > n-1 {
		return api.ErrArg
	}
	return api.OK
}

// n is looked at ahead of id, and both ahead of all else.
func TestSizeAheadOfId(t *testing.T) {
	used := logOf(1, 3, recA)
	for _, n := range near() {
		for _, id := range append(near(), n-1, n, n+1) {
			e := whoFault(id, n)
			if e == api.OK {
				continue
			}
			for _, on := range []*disk.Disk{nil, disk.New(), image(t, used, 11), image(t, []byte("x"), 1)} {
				createFails(t, on, id, n, e)
				recoverFails(t, on, id, n, 0, e)
			}
			for _, data := range [][]byte{nil, used, []byte("x")} {
				for _, synced := range []int{-1, 0, len(data), len(data) + 1} {
					scans(t, data, synced, id, n, nil, 0, e)
				}
			}
		}
	}
}

func TestP10_1EveryReplica(t *testing.T) {
	eachLog(func(id, n int) {
		d := disk.New()
		l := creates(t, d, id, n)
		shows(t, d, headOf(id, n), 11)
		waits(t, l, 0)
		for _, r := range sorts(n) {
			appends(t, l, r, api.OK)
		}
		shows(t, d, logOf(id, n, sorts(n)...), 11)
	})
}

func TestP10_1HeadsBytes(t *testing.T) {
	d := disk.New()
	creates(t, d, 1, 3)
	shows(t, d, []byte{0x4d, 0x54, 2, 3, 1, 1, 3, 0x63, 0x8a, 0x09, 0x89}, 11)
}

func TestP10_1NoDisk(t *testing.T) {
	eachLog(func(id, n int) { createFails(t, nil, id, n, api.ErrArg) })
}

// A disk is empty too if it was made so.
func TestP10_1EmptyDisks(t *testing.T) {
	crashed, cut := disk.New(), disk.New()
	crashed.Append(frameA())
	crashed.Crash(0)
	cut.Append([]byte("x"))
	cut.Cut(0)
	synced := disk.New()
	synced.Sync()
	for _, d := range []*disk.Disk{crashed, cut, synced, image(t, nil, 0), image(t, []byte{}, 0)} {
		creates(t, d, 1, 3)
		shows(t, d, frameH(), 11)
	}
}

func TestP10_1UsedDisks(t *testing.T) {
	full := []byte(text(topDisk))
	for _, c := range []struct {
		data   []byte
		synced int
	}{
		{[]byte("x"), 0}, {[]byte("x"), 1}, {[]byte{0}, 0}, {[]byte{0}, 1},
		{frameH(), 0}, {frameH(), 11}, {frameH()[:10], 0}, {logOf(1, 3, recA), 11}, {headOf(0, 3), 11},
		{full, 0}, {full, 5}, {full, topDisk}, {full[:topDisk-11], 0},
	} {
		d := image(t, c.data, c.synced)
		createFails(t, d, 1, 3, api.ErrUsed)
		createFails(t, d, 3, 3, api.ErrArg)
		createFails(t, d, 1, 8, api.ErrSize)
		shows(t, d, c.data, c.synced)
	}
}

// A refused Create leaves an empty disk empty: the next one may begin there.
func TestP10_1DiskStaysEmpty(t *testing.T) {
	d := disk.New()
	createFails(t, d, 0, 0, api.ErrSize)
	createFails(t, d, 3, 3, api.ErrArg)
	shows(t, d, nil, 0)
	creates(t, d, 2, 3)
	shows(t, d, headOf(2, 3), 11)
}

func TestP10_1Twice(t *testing.T) {
	d := disk.New()
	l := creates(t, d, 1, 3)
	createFails(t, d, 1, 3, api.ErrUsed)
	createFails(t, d, 0, 5, api.ErrUsed)
	appends(t, l, recA, api.OK)
	createFails(t, d, 1, 3, api.ErrUsed)
	shows(t, d, logOf(1, 3, recA), 11)
	waits(t, l, 1)
}

// Two logs on two disks never see one another.
func TestP10_1TwoLogs(t *testing.T) {
	one, two := disk.New(), disk.New()
	l, m := creates(t, one, 1, 3), creates(t, two, 4, 5)
	appends(t, l, recA, api.OK)
	appends(t, m, sorts(5)[5], api.OK)
	appends(t, m, sorts(5)[3], api.OK)
	m.Sync()
	appends(t, l, recB, api.OK)
	waits(t, l, 2)
	waits(t, m, 0)
	shows(t, one, logOf(1, 3, recA, recB), 11)
	both := logOf(4, 5, sorts(5)[5], sorts(5)[3])
	shows(t, two, both, len(both))
}
