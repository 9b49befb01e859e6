package wal_test

import (
	"bytes"
	"sync"
	"testing"

	"moot/api"
	"moot/disk"
	"moot/wal"
)

// beside runs a hand of another's while do runs, and waits for both.
func beside(hand, do func()) {
	var all sync.WaitGroup
	gate := make(chan int)
	all.Go(func() {
		<-gate
		hand()
	})
	close(gate)
	do()
	all.Wait()
}

// The chapter promises nothing for a disk that others write on at the same time; but no log comes with an error, and none is missing without one.
func TestOtherHandsBesideRecover(t *testing.T) {
	for range 200 {
		d := image(t, logOf(1, 3, recB), 11)
		hand := func() {
			for range 20 {
				d.Append(frameA())
				d.Sync()
			}
		}
		beside(hand, func() {
			for range 20 {
				l, records, place, e := wal.Recover(d, 1, 3)
				switch {
				case e == api.OK && (l == nil || len(records) == 0 || place < 29):
					t.Errorf("without an error: a log: %v, %d records, %d", l != nil, len(records), place)
				case e != api.OK && (l != nil || len(records) != 0 || place != 0 || e != api.ErrPlace):
					t.Errorf("with the error %d: a log: %v, %d records, %d", e, l != nil, len(records), place)
				}
			}
		})
	}
}

func TestOtherHandsBesideCreate(t *testing.T) {
	full := make([]byte, topDisk)
	for range 300 {
		d := disk.New()
		beside(func() { d.Append(full) }, func() {
			l, e := wal.Create(d, 1, 3)
			if (l == nil) == (e == api.OK) || e != api.OK && e != api.ErrUsed && e != api.ErrFull {
				t.Errorf("Create: a log: %v, %d", l != nil, e)
			}
			if b, _ := d.Look(); e == api.OK && !bytes.Equal(b, frameH()) {
				t.Errorf("Create = %d, but the disk is %.20x (%d bytes)", e, b, len(b))
			}
		})
	}
}
