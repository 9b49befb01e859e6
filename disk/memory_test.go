package disk_test

import (
	"testing"

	"moot/api"
	"moot/disk"
)

// texts are bytes to hand in, of sizes at which memory is short or spare.
func texts() []string {
	return []string{"", "a", "abc", "\xee", long(8), long(31), long(32), long(33), long(1000), long(70000)}
}

// use makes every call on a disk: bytes are added, turned and taken off where an image or an Append may have laid them.
func use(d *disk.Disk) {
	b, mark := d.Look()
	for range 2 {
		for at := range b {
			d.Rot(at, 0x5a)
		}
		d.Append([]byte("0123456789"))
		d.Crash(3)
		d.Append([]byte("uvwxyz"))
		d.Cut(max(mark, len(b)-1))
		d.Append([]byte("ABC"))
		d.Cut(mark)
		d.Append(make([]byte, 40))
		d.Look()
		d.Crash(0)
	}
	d.Append([]byte("end"))
	d.Sync()
}

// Data is left as it was, spare room too, by Image and by all that is done to the disk later.
func TestP9_9DataIsLeft(t *testing.T) {
	for _, data := range texts() {
		for _, synced := range []int{-1, 0, len(data) / 2, len(data), len(data) + 1} {
			cut, whole := room(data)
			was := string(whole)
			if d, e := disk.Image(cut, synced); e == api.OK {
				use(d)
				looked, _ := d.Look()
				spoil(looked, 0x11)
			}
			if string(whole) != was {
				t.Errorf("Image of %d bytes, %d: the data or its spare room changed", len(data), synced)
			}
		}
	}
}

func TestP9_9DataIsNotKept(t *testing.T) {
	for _, data := range texts() {
		cut, whole := room(data)
		d, _ := disk.Image(cut, len(data)/2)
		spoil(whole, 0x77)
		shows(t, d, data, len(data)/2)
		appends(t, d, "xyz", api.OK)
		spoil(whole, 0x78)
		shows(t, d, data+"xyz", len(data)/2)
	}
}

func TestP9_9AppendedBytesAreLeft(t *testing.T) {
	for _, b := range texts() {
		for _, before := range texts() {
			cut, whole := room(b)
			was := string(whole)
			d := image(t, before, 0)
			for range 3 {
				d.Append(cut)
			}
			use(d)
			looked, _ := d.Look()
			spoil(looked, 0x11)
			if string(whole) != was {
				t.Errorf("Append of %d bytes behind %d: they or their spare room changed", len(b), len(before))
			}
		}
	}
}

func TestP9_9AppendedBytesAreNotKept(t *testing.T) {
	for _, b := range texts() {
		d, all := disk.New(), ""
		for i, next := range append(texts(), texts()...) {
			for _, part := range []string{b, next} {
				cut, whole := room(part)
				d.Append(cut)
				spoil(whole, byte(i))
				all += part
			}
			shows(t, d, all, 0)
		}
	}
}

// A refused Append and a refused Image leave what they were given, and keep none of it.
func TestP9_9RefusedBytes(t *testing.T) {
	data := long(topDisk)
	d := image(t, data, 0)
	cut, whole := room(long(40))
	was := string(whole)
	for range 3 {
		if e := d.Append(cut); e != api.ErrFull {
			t.Errorf("Append on a full disk = %d", e)
		}
	}
	if string(whole) != was {
		t.Error("a refused Append changed its bytes")
	}
	spoil(whole, 0x77)
	shows(t, d, data, 0)
	cut, whole = room(data + "x")
	was = string(whole)
	noImage(t, cut, 0, api.ErrFull)
	if string(whole) != was {
		t.Error("a refused Image changed its data")
	}
}

// What Look answered may be written over and appended to: the disk, and what was answered else, stay.
func TestP9_9LooksAreNewMemory(t *testing.T) {
	for _, data := range texts() {
		d := image(t, data, len(data)/2)
		var lists [][]byte
		for range 5 {
			b, _ := d.Look()
			spoil(append(b, 1, 2, 3), 0xee)
			spoil(append(b[:len(b)/2], 4), 0xef)
			lists = append(lists, b)
			b, _ = d.Look()
			spoil(b, 0xdd)
			lists = append(lists, b)
			shows(t, d, data, len(data)/2)
		}
		checkOwn(t, lists)
		shows(t, d, data, len(data)/2)
	}
}

// What Look answered stays, whatever is done to the disk behind it.
func TestP9_9LooksStay(t *testing.T) {
	for _, data := range texts() {
		for _, synced := range []int{0, len(data) / 2, len(data)} {
			d := image(t, data, synced)
			appends(t, d, "tail", api.OK)
			first, _ := d.Look()
			appends(t, d, "more", api.OK)
			second, _ := d.Look()
			crashes(t, d, 1, api.OK)
			third, _ := d.Look()
			was := [3]string{string(first), string(second), string(third)}
			use(d)
			if [3]string{string(first), string(second), string(third)} != was {
				t.Errorf("an answered list changed with the disk (%d bytes, mark %d)", len(data), synced)
			}
		}
	}
}

// On walks every list that goes in or out is written over at once.
func TestP9_9Walks(t *testing.T) {
	d := dice(9009)
	for range 500 {
		m := model{bytes: d.text(d.below(40))}
		m.mark = d.below(len(m.bytes) + 1)
		cut, whole := room(m.bytes)
		on, _ := disk.Image(cut, m.mark)
		spoil(whole, 0x77)
		var lists [][]byte
		for range 40 {
			s := d.step(m)
			s.onModel(&m)
			if s.call == "Append" {
				cut, whole := room(s.b)
				on.Append(cut)
				spoil(whole, 0x78)
				lists = append(lists, whole)
			} else {
				s.on(on)
			}
			b, mark := on.Look()
			if string(b) != m.bytes || mark != m.mark {
				t.Fatalf("%s(%q, %d, %d) left %q, %d, want %q, %d", s.call, s.b, s.x, s.y, b, mark, m.bytes, m.mark)
			}
			spoil(b, 0x79)
			lists = append(lists, b)
		}
		checkOwn(t, append(lists, whole))
		shows(t, on, m.bytes, m.mark)
	}
}

// Disks of the same data, and one made of what the other showed, share nothing.
func TestP9_9DisksShareNothing(t *testing.T) {
	for _, data := range texts() {
		source, _ := room(data)
		a, _ := disk.Image(source, 0)
		b, _ := disk.Image(source, 0)
		looked, _ := a.Look()
		c, _ := disk.Image(looked, len(looked))
		e := disk.New()
		e.Append(looked)
		all := []*disk.Disk{a, b, c, e}
		for i, d := range all {
			use(d)
			for j, other := range all[i+1:] {
				if b, _ := other.Look(); string(b) != data {
					t.Errorf("what was done to disk %d shows on disk %d (%d bytes)", i, i+1+j, len(data))
				}
			}
		}
	}
}

func TestP9_9ADiskOnItself(t *testing.T) {
	d, want := image(t, "abc", 1), "abc"
	for range 6 {
		b, _ := d.Look()
		if e := d.Append(b); e != api.OK {
			t.Errorf("Append = %d", e)
		}
		spoil(b, 0xee)
		want += want
		shows(t, d, want, 1)
	}
}
