package disk_test

import (
	"testing"

	"moot/api"
	"moot/disk"
)

func TestP9_1NewDisk(t *testing.T) {
	d := disk.New()
	if d == nil {
		t.Fatal("New() is nil")
	}
	shows(t, d, "", 0)
}

func TestP9_1DisksBesideEachOther(t *testing.T) {
	a, b := disk.New(), disk.New()
	if a == b {
		t.Error("New() gave the same disk twice")
	}
	appends(t, a, "abc", api.OK)
	shows(t, b, "", 0)
	a.Sync()
	shows(t, b, "", 0)
	appends(t, b, "de", api.OK)
	shows(t, a, "abc", 3)
	rots(t, b, 0, 1, api.OK)
	crashes(t, b, 1, api.OK)
	shows(t, a, "abc", 3)
	shows(t, b, "e", 0)
	shows(t, disk.New(), "", 0)
}

func TestP9_2Examples(t *testing.T) {
	noImage(t, []byte("xyz"), 4, api.ErrMark)
	d := image(t, "xyz", 2)
	shows(t, d, "xyz", 2)
	crashes(t, d, 0, api.OK)
	shows(t, d, "xy", 2)
}

func TestP9_2Empty(t *testing.T) {
	for _, data := range [][]byte{nil, {}, make([]byte, 0, 9)} {
		d, e := disk.Image(data, 0)
		if d == nil || e != api.OK {
			t.Fatalf("Image(%v, 0): a disk: %v, %d", data, d != nil, e)
		}
		shows(t, d, "", 0)
		appends(t, d, "ab", api.OK)
		shows(t, d, "ab", 0)
		noImage(t, data, 1, api.ErrMark)
		noImage(t, data, -1, api.ErrMark)
	}
}

func TestP9_2EveryMark(t *testing.T) {
	for _, data := range []string{"", "a", "abc", "\x00\xff\x00", long(300)} {
		for synced := -3; synced <= len(data)+3; synced++ {
			if synced < 0 || synced > len(data) {
				noImage(t, []byte(data), synced, api.ErrMark)
			} else {
				shows(t, image(t, data, synced), data, synced)
			}
		}
		for _, synced := range wild() {
			noImage(t, []byte(data), synced, api.ErrMark)
		}
	}
}

// Spare room behind the data is none of it.
func TestP9_2SpareRoomIsNoData(t *testing.T) {
	data := []byte("abcdef")
	noImage(t, data[:3], 4, api.ErrMark)
	d, _ := disk.Image(data[:3], 3)
	shows(t, d, "abc", 3)
}

func TestP9_2Greatest(t *testing.T) {
	data := long(topDisk)
	for _, synced := range []int{0, 1, topDisk - 1, topDisk} {
		shows(t, image(t, data, synced), data, synced)
	}
	noImage(t, []byte(data), topDisk+1, api.ErrMark)
	noImage(t, []byte(data), -1, api.ErrMark)
}

// Too many bytes are told ahead of a mark that may not be.
func TestP9_2TooMany(t *testing.T) {
	data := make([]byte, topDisk+100)
	for _, size := range []int{topDisk + 1, topDisk + 2, topDisk + 100} {
		for _, synced := range append(wild(), -1, 0, 1, topDisk, size-1, size, size+1) {
			noImage(t, data[:size], synced, api.ErrFull)
		}
	}
}

func TestP9_8EmptyAndFull(t *testing.T) {
	shows(t, disk.New(), "", 0)
	data := long(topDisk)
	d := disk.New()
	appends(t, d, data, api.OK)
	shows(t, d, data, 0)
	d.Sync()
	shows(t, d, data, topDisk)
	shows(t, image(t, data, 7), data, 7)
}

// A disk that is looked at between all calls and one that is not come out alike.
func TestP9_8LookingChangesNothing(t *testing.T) {
	d := dice(98)
	for range 500 {
		seen, unseen, m := disk.New(), disk.New(), model{}
		for range 30 {
			s := d.step(m)
			if s.call == "Look" {
				continue
			}
			s.onModel(&m)
			for range 3 {
				seen.Look()
			}
			if a, b := s.on(seen), s.on(unseen); a != b {
				t.Fatalf("%s(%q, %d, %d) = %d on a disk that was looked at, %d else", s.call, s.b, s.x, s.y, a.e, b.e)
			}
		}
		shows(t, seen, m.bytes, m.mark)
		shows(t, unseen, m.bytes, m.mark)
	}
}
