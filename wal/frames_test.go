package wal

import (
	"errors"
	"fmt"
	"slices"
	"testing"

	"moot/api"
	"moot/disk"
)

// threeRecords is a log of replica 1 among 3, and where its frames begin.
func threeRecords(t *testing.T) ([]byte, []int) {
	t.Helper()
	d := disk.New()
	l, _ := Create(d, 1, 3)
	for num := 1; num <= 3; num++ {
		if e := l.Append(api.Record{Kind: api.RecPromise, Inst: api.Inst{Row: 1, Num: num}, Bal: api.Ballot{Round: 2}}); e != api.OK {
			t.Fatalf("Append = %d", e)
		}
	}
	b, _ := d.Look()
	return b, []int{0, 11, 22, 33}
}

// gone is the places and the kinds that an iterator goes through, up to so many.
func gone(data []byte, n, most int, err *error) (places, kinds []int) {
	for place, r := range frames(data, n, err) {
		places, kinds = append(places, place), append(kinds, r.Kind)
		if len(places) == most {
			break
		}
	}
	return places, kinds
}

func TestFramesPlacesAndRecords(t *testing.T) {
	data, begins := threeRecords(t)
	var err error
	places, kinds := gone(data, 3, 9, &err)
	if !slices.Equal(places, begins) || !slices.Equal(kinds, []int{1, 2, 2, 2}) || err != nil {
		t.Errorf("places %v, kinds %v, %v", places, kinds, err)
	}
	if places, _ := gone(nil, 3, 9, &err); len(places) != 0 || err != nil {
		t.Errorf("of no bytes: places %v, %v", places, err)
	}
}

// Who has seen enough is told no more, and that is no error, even if what comes next is not right.
func TestFramesLeftEarly(t *testing.T) {
	data, begins := threeRecords(t)
	for most := 1; most <= len(begins); most++ {
		var err error
		if places, _ := gone(data, 3, most, &err); !slices.Equal(places, begins[:most]) || err != nil {
			t.Errorf("left behind %d: places %v, %v", most, places, err)
		}
		if places, _ := gone(append(data[:11*most:11*most], 'x'), 3, most, &err); !slices.Equal(places, begins[:most]) || err != nil {
			t.Errorf("left behind %d, ahead of what is not right: places %v, %v", most, places, err)
		}
	}
}

// An iterator may be ranged over again: it begins at byte 0 once more.
func TestFramesTwice(t *testing.T) {
	data, begins := threeRecords(t)
	var err error
	all := frames(data, 3, &err)
	for range 2 {
		var places []int
		for place := range all {
			places = append(places, place)
		}
		if !slices.Equal(places, begins) || err != nil {
			t.Errorf("places %v, %v", places, err)
		}
	}
}

// What ends the reading too early carries the place, and is found through whatever wraps it.
func TestStopIsFound(t *testing.T) {
	data, begins := threeRecords(t)
	for i, begin := range begins {
		turned := slices.Clone(data)
		turned[begin+8] ^= 1
		for _, wrong := range [][]byte{turned, append(data[:begin:begin], 0)} {
			var err error
			places, _ := gone(wrong, 3, 9, &err)
			var s stop
			if !slices.Equal(places, begins[:i]) || !errors.As(err, &s) || s.place != begin {
				t.Errorf("places %v, %v, the place %d, want %d", places, err, s.place, begin)
			}
			if !errors.As(fmt.Errorf("outer: %w", because{err, "twice"}), &s) || s.place != begin {
				t.Errorf("wrapped twice more: the place %d, want %d", s.place, begin)
			}
		}
	}
}

func TestStopSaysWhy(t *testing.T) {
	data, _ := threeRecords(t)
	for _, c := range []struct {
		data []byte
		n    int
		want string
	}{
		{data[:10], 3, "wal: no right frame at byte 0: no frame"},
		{data, 1, "wal: no right frame at byte 11: no record"},
		{data[11:], 3, "wal: no right frame at byte 0: a head stands at byte 0 and nowhere else"},
		{append(data[:11:11], data...), 3, "wal: no right frame at byte 11: a head stands at byte 0 and nowhere else"},
	} {
		if _, _, err := read(c.data, c.n); err == nil || err.Error() != c.want {
			t.Errorf("the error says %v, want %q", err, c.want)
		}
	}
}
