package disk_test

import (
	"math"
	"testing"

	"moot/api"
	"moot/disk"
)

func TestExamples(t *testing.T) {
	d := disk.New()
	appends(t, d, "abc", api.OK)
	shows(t, d, "abc", 0)
	d.Sync()
	appends(t, d, "de", api.OK)
	shows(t, d, "abcde", 3)
	crashes(t, d, 1, api.OK)
	shows(t, d, "abcd", 3)
	crashes(t, d, 9, api.OK)
	shows(t, d, "abcd", 3)
	cuts(t, d, 2, api.ErrPlace)
	cuts(t, d, 3, api.OK)
	shows(t, d, "abc", 3)
	rots(t, d, 0, 32, api.OK)
	shows(t, d, "Abc", 3)
	rots(t, d, 3, 1, api.ErrPlace)
	rots(t, d, 0, 256, api.ErrSame)
	rots(t, d, 3, 0, api.ErrPlace)
	shows(t, d, "Abc", 3)
}

func TestP9_3BytesStandBehindTheOthers(t *testing.T) {
	d, all := image(t, "ab", 1), "ab"
	for _, b := range []string{"c", "", "def", "\x00\xff", long(5000), "g"} {
		appends(t, d, b, api.OK)
		all += b
		shows(t, d, all, 1)
	}
}

func TestP9_3Empty(t *testing.T) {
	full := long(topDisk)
	for _, c := range []struct {
		data   string
		synced int
	}{{"", 0}, {"abc", 0}, {"abc", 2}, {"abc", 3}, {full, 0}, {full, 5}, {full, topDisk}} {
		d := image(t, c.data, c.synced)
		for _, b := range [][]byte{nil, {}, []byte("xyz")[:0]} {
			if e := d.Append(b); e != api.OK {
				t.Errorf("Append of nothing on %d bytes = %d", len(c.data), e)
			}
		}
		shows(t, d, c.data, c.synced)
	}
}

func TestP9_3JustFull(t *testing.T) {
	for _, free := range []int{1, 2, 3, 1000, topDisk} {
		data, b := long(topDisk-free), long(free)
		synced := len(data) / 2
		d := image(t, data, synced)
		appends(t, d, b+"x", api.ErrFull)
		shows(t, d, data, synced)
		appends(t, d, long(topDisk+1), api.ErrFull)
		shows(t, d, data, synced)
		appends(t, d, b, api.OK)
		shows(t, d, data+b, synced)
		appends(t, d, "x", api.ErrFull)
		shows(t, d, data+b, synced)
	}
}

// What a crash or a cut took is room again.
func TestP9_3RoomBehindLosses(t *testing.T) {
	data := long(topDisk)
	for _, lose := range []func(d *disk.Disk) api.Errno{
		func(d *disk.Disk) api.Errno { return d.Crash(2) },
		func(d *disk.Disk) api.Errno { return d.Cut(topDisk - 3) },
	} {
		d := image(t, data, topDisk-5)
		if e := lose(d); e != api.OK {
			t.Fatalf("losing 3 bytes = %d", e)
		}
		appends(t, d, "wxyz", api.ErrFull)
		appends(t, d, "xyz", api.OK)
		shows(t, d, data[:topDisk-3]+"xyz", topDisk-5)
	}
}

func TestP9_4Sync(t *testing.T) {
	d := disk.New()
	d.Sync()
	shows(t, d, "", 0)
	appends(t, d, "abc", api.OK)
	shows(t, d, "abc", 0)
	for range 2 {
		d.Sync()
		shows(t, d, "abc", 3)
	}
	appends(t, d, "d", api.OK)
	shows(t, d, "abcd", 3)
	d.Sync()
	shows(t, d, "abcd", 4)
	crashes(t, d, 0, api.OK)
	shows(t, d, "abcd", 4)
}

// A mark in the middle, and what a crash, a cut or a rot left: all of it is synced.
func TestP9_4SyncsWhatIsLeft(t *testing.T) {
	for _, c := range []struct {
		spoil func(d *disk.Disk)
		want  string
	}{
		{func(d *disk.Disk) {}, "abcdef"},
		{func(d *disk.Disk) { d.Crash(1) }, "abc"},
		{func(d *disk.Disk) { d.Crash(0) }, "ab"},
		{func(d *disk.Disk) { d.Cut(5) }, "abcde"},
		{func(d *disk.Disk) { d.Rot(5, 1) }, "abcdeg"},
		{func(d *disk.Disk) { d.Append(make([]byte, topDisk)) }, "abcdef"},
	} {
		d := image(t, "abcdef", 2)
		c.spoil(d)
		d.Sync()
		shows(t, d, c.want, len(c.want))
		crashes(t, d, 0, api.OK)
		cuts(t, d, len(c.want)-1, api.ErrPlace)
		shows(t, d, c.want, len(c.want))
	}
}

func TestP9_4FullDisk(t *testing.T) {
	data := long(topDisk)
	d := image(t, data, 0)
	d.Sync()
	shows(t, d, data, topDisk)
}

func TestP9_5Keep(t *testing.T) {
	for _, c := range []struct {
		keep int
		want string
		e    api.Errno
	}{
		{math.MinInt, "abcdef", api.ErrArg}, {-3, "abcdef", api.ErrArg}, {-1, "abcdef", api.ErrArg},
		{0, "ab", api.OK}, {1, "abc", api.OK}, {3, "abcde", api.OK},
		{4, "abcdef", api.OK}, {5, "abcdef", api.OK}, {6, "abcdef", api.OK}, {1 << 32, "abcdef", api.OK},
		{math.MaxInt - 2, "abcdef", api.OK}, {math.MaxInt - 1, "abcdef", api.OK}, {math.MaxInt, "abcdef", api.OK},
	} {
		d := image(t, "abcdef", 2)
		crashes(t, d, c.keep, c.e)
		shows(t, d, c.want, 2)
	}
}

func TestP9_5WithoutTail(t *testing.T) {
	for _, data := range []string{"", "abc"} {
		for _, keep := range []int{0, 1, 2, math.MaxInt} {
			d := image(t, data, len(data))
			crashes(t, d, keep, api.OK)
			shows(t, d, data, len(data))
			crashes(t, d, -1, api.ErrArg)
			shows(t, d, data, len(data))
		}
	}
}

func TestP9_5NothingSynced(t *testing.T) {
	for keep := range 5 {
		d := image(t, "abc", 0)
		crashes(t, d, keep, api.OK)
		shows(t, d, "abc"[:min(keep, 3)], 0)
	}
}

// What is left of the tail is not synced by the crash: the next one may take it, till it is synced.
func TestP9_5CrashDoesNotSync(t *testing.T) {
	d := image(t, "abcdef", 2)
	for _, want := range []string{"abcde", "abcd", "abc", "ab", "ab"} {
		crashes(t, d, len(want)-2, api.OK)
		shows(t, d, want, 2)
	}
	appends(t, d, "xyz", api.OK)
	crashes(t, d, 2, api.OK)
	d.Sync()
	crashes(t, d, 0, api.OK)
	shows(t, d, "abxy", 4)
}

// Two in a row, of k and l bytes, are one of the lesser.
func TestP9_5TwoInARow(t *testing.T) {
	for k := range 7 {
		for l := range 7 {
			d := image(t, "abcdef", 2)
			crashes(t, d, k, api.OK)
			crashes(t, d, l, api.OK)
			shows(t, d, "abcdef"[:min(2+k, 2+l, 6)], 2)
		}
	}
}

// What was lost does not come back, by whatever call.
func TestP9_5LostIsLost(t *testing.T) {
	d := image(t, "abcdef", 2)
	crashes(t, d, 1, api.OK)
	cuts(t, d, 4, api.ErrPlace)
	rots(t, d, 3, 1, api.ErrPlace)
	crashes(t, d, 4, api.OK)
	shows(t, d, "abc", 2)
	appends(t, d, "x", api.OK)
	shows(t, d, "abcx", 2)
}

func TestP9_6EverySize(t *testing.T) {
	for _, mark := range []int{0, 1, 3, 6} {
		for size := -2; size <= 8; size++ {
			d := image(t, "abcdef", mark)
			if size < mark || size > 6 {
				cuts(t, d, size, api.ErrPlace)
				shows(t, d, "abcdef", mark)
			} else {
				cuts(t, d, size, api.OK)
				shows(t, d, "abcdef"[:size], mark)
			}
		}
		for _, size := range wild() {
			d := image(t, "abcdef", mark)
			cuts(t, d, size, api.ErrPlace)
			shows(t, d, "abcdef", mark)
		}
	}
}

func TestP9_6EmptyDisk(t *testing.T) {
	d := disk.New()
	cuts(t, d, 0, api.OK)
	cuts(t, d, 1, api.ErrPlace)
	cuts(t, d, -1, api.ErrPlace)
	shows(t, d, "", 0)
}

func TestP9_6LostIsLost(t *testing.T) {
	d := image(t, "abcdef", 2)
	cuts(t, d, 4, api.OK)
	cuts(t, d, 5, api.ErrPlace)
	rots(t, d, 4, 1, api.ErrPlace)
	shows(t, d, "abcd", 2)
	appends(t, d, "xy", api.OK)
	shows(t, d, "abcdxy", 2)
	cuts(t, d, 2, api.OK)
	d.Sync()
	shows(t, d, "ab", 2)
}

func TestP9_7EveryPlace(t *testing.T) {
	for _, mark := range []int{0, 2, 4} {
		for at := -2; at <= 6; at++ {
			d := image(t, "abcd", mark)
			if at < 0 || at >= 4 {
				rots(t, d, at, 1, api.ErrPlace)
				shows(t, d, "abcd", mark)
				continue
			}
			rots(t, d, at, 0x81, api.OK)
			want := []byte("abcd")
			want[at] = []byte{0xe0, 0xe3, 0xe2, 0xe5}[at]
			shows(t, d, string(want), mark)
		}
	}
}

func TestP9_7EveryTurn(t *testing.T) {
	for x := -300; x <= 600; x++ {
		for _, was := range []int{0, 'a', 0x55, 0xff} {
			data := string([]byte{7, byte(was), 9})
			d := image(t, data, 1)
			if x < 1 || x > 255 {
				rots(t, d, 1, x, api.ErrSame)
				shows(t, d, data, 1)
				continue
			}
			m := model{data, 1}
			m.rot(1, x)
			rots(t, d, 1, x, api.OK)
			shows(t, d, m.bytes, 1)
			if m.bytes == data {
				t.Errorf("%d turns nothing of %d", x, was)
			}
		}
	}
}

func TestP9_7Wild(t *testing.T) {
	d := image(t, "abcd", 2)
	for _, w := range wild() {
		rots(t, d, w, 1, api.ErrPlace)
		rots(t, d, 1, w, api.ErrSame)
	}
	shows(t, d, "abcd", 2)
}

// Both amiss: the place is told.
func TestP9_7PlaceAheadOfTurn(t *testing.T) {
	for _, data := range []string{"", "abcd"} {
		d := image(t, data, 0)
		for _, at := range append(wild(), -1, len(data), len(data)+1) {
			for _, x := range append(wild(), -1, 0, 1, 255, 256, 257) {
				rots(t, d, at, x, api.ErrPlace)
			}
		}
		shows(t, d, data, 0)
	}
}

// The same rot twice is none.
func TestP9_7Twice(t *testing.T) {
	d := image(t, "abcd", 2)
	for at := range 4 {
		for x := 1; x <= 255; x++ {
			rots(t, d, at, x, api.OK)
			rots(t, d, at, x, api.OK)
		}
	}
	shows(t, d, "abcd", 2)
	rots(t, d, 3, 1, api.OK)
	rots(t, d, 3, 3, api.OK)
	shows(t, d, "abcf", 2)
}

// What rotted is kept or lost like any other byte.
func TestP9_7RotStays(t *testing.T) {
	d := image(t, "abcd", 2)
	rots(t, d, 0, 32, api.OK)
	rots(t, d, 2, 32, api.OK)
	rots(t, d, 3, 32, api.OK)
	crashes(t, d, 1, api.OK)
	appends(t, d, "d", api.OK)
	d.Sync()
	shows(t, d, "AbCd", 4)
}

func TestP9_7FullDisk(t *testing.T) {
	data := long(topDisk)
	d := image(t, data, topDisk-1)
	rots(t, d, topDisk, 1, api.ErrPlace)
	rots(t, d, topDisk-1, 256, api.ErrSame)
	shows(t, d, data, topDisk-1)
	rots(t, d, topDisk-1, 255, api.OK)
	shows(t, d, data[:topDisk-1]+string([]byte{^data[topDisk-1]}), topDisk-1)
}
