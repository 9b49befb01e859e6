package wal_test

import (
	"testing"

	"moot/api"
	"moot/disk"
)

func TestP10_5NoDisk(t *testing.T) {
	eachLog(func(id, n int) { recoverFails(t, nil, id, n, 0, api.ErrArg) })
}

// Each error of Scan, with its place; the disk stays.
func TestP10_5ErrorsOfScan(t *testing.T) {
	h, a, b := frameH(), frameA(), frameB()
	all := join(h, a, b)
	for _, c := range []struct {
		data   []byte
		synced int
		place  int
		e      api.Errno
	}{
		{nil, 0, 0, api.ErrHead}, {h[:10], 0, 0, api.ErrHead}, {h[:10], 1, 0, api.ErrRot}, {[]byte("x"), 0, 0, api.ErrHead}, {[]byte("x"), 1, 0, api.ErrRot},
		{a, 0, 0, api.ErrHead}, {a, 11, 0, api.ErrRot}, {headOf(2, 3), 0, 0, api.ErrHead}, {headOf(2, 3), 11, 0, api.ErrHead}, {headOf(1, 5), 11, 0, api.ErrHead},
		{join(headOf(0, 3), a, b[:5]), 22, 0, api.ErrHead}, {join(headOf(0, 3), a, b[:5]), 23, 22, api.ErrRot},
		{all[:len(all)-1], 23, 22, api.ErrRot}, {all[:len(all)-1], len(all) - 1, 22, api.ErrRot},
		{changed(all, 12, 1), 12, 11, api.ErrRot}, {changed(all, 12, 1), len(all), 11, api.ErrRot},
		{join(h, a, h, b), 23, 22, api.ErrRot}, {join(h, a, h, b), 22 + 11 + len(b), 22, api.ErrRot},
	} {
		recoverFails(t, image(t, c.data, c.synced), 1, 3, c.place, c.e)
	}
}

// A full disk that doesn't begin with a Head.
func TestP10_5FullDisks(t *testing.T) {
	full := []byte(text(topDisk))
	recoverFails(t, image(t, full, 0), 1, 3, 0, api.ErrHead)
	recoverFails(t, image(t, full, topDisk), 1, 3, 0, api.ErrRot)
	copy(full, frameH())
	recoverFails(t, image(t, full, topDisk), 1, 3, 11, api.ErrRot)
	d := image(t, full, 11)
	recovers(t, d, 1, 3, nil, 11)
	shows(t, d, frameH(), 11)
}

// A log torn at every byte, with every mark that is not above the tear: the cut, the mark, and going on.
func TestP10_5CutAndMark(t *testing.T) {
	records := sorts(3)
	all, ends := logOf(1, 3, records...), endsOf(3, records...)
	for whole, p := range ends {
		next := len(all)
		if whole+1 < len(ends) {
			next = ends[whole+1] - 1
		}
		for size := p; size <= next; size++ {
			for _, synced := range []int{0, 5, p - 1, p} {
				d := image(t, all[:size], synced)
				l := recovers(t, d, 1, 3, records[:whole], p)
				shows(t, d, all[:p], p)
				waits(t, l, 0)
				appends(t, l, recB, api.OK)
				waits(t, l, 1)
				shows(t, d, join(all[:p], frameB()), p)
			}
		}
	}
}

// What is cut is what is not right, and all behind it, right or not.
func TestP10_5WhatIsCut(t *testing.T) {
	good := logOf(1, 3, recA)
	for _, wrong := range wrongFrames() {
		for _, behind := range [][]byte{nil, frameA(), join(frameH(), frameB())} {
			d := image(t, join(good, wrong, behind), 11)
			recovers(t, d, 1, 3, []api.Record{recA}, 22)
			shows(t, d, good, 22)
		}
	}
}

func TestP10_5EveryReplica(t *testing.T) {
	eachLog(func(id, n int) {
		records := append(sorts(n), greatest(n))
		all := logOf(id, n, records...)
		d := image(t, join(all, []byte("torn")), 11)
		l := recovers(t, d, id, n, records, len(all))
		shows(t, d, all, len(all))
		appends(t, l, headRecord(id, n), api.ErrSecond)
		appends(t, l, records[0], api.OK)
		shows(t, d, join(all, framed(n, records[0])), len(all))
		createFails(t, d, id, n, api.ErrUsed)
	})
}

// Going on behind Recover, and Recover once more.
func TestP10_5OnceMore(t *testing.T) {
	d := disk.New()
	creates(t, d, 1, 3)
	var all []api.Record
	for _, r := range append(sorts(3), recA, recB) {
		before := len(logOf(1, 3, all...))
		l := recovers(t, d, 1, 3, all, before)
		recovers(t, d, 1, 3, all, before)
		appends(t, l, r, api.OK)
		shows(t, d, logOf(1, 3, append(all[:len(all):len(all)], r)...), before)
		d.Append([]byte("MT"))
		all = append(all, r)
	}
	size := len(logOf(1, 3, all...))
	l := recovers(t, d, 1, 3, all, size)
	shows(t, d, logOf(1, 3, all...), size)
	l.Sync()
	recovers(t, d, 1, 3, all, size)
	recoverFails(t, d, 0, 3, 0, api.ErrHead)
	recovers(t, d, 1, 3, all, size)
}

// An error leaves all as it was: who asks rightly then finds the torn tail still there, and the mark.
func TestP10_5BehindAnError(t *testing.T) {
	d := image(t, join(logOf(1, 3, recA), []byte("torn")), 11)
	recoverFails(t, d, 2, 3, 0, api.ErrHead)
	recoverFails(t, d, 1, 5, 0, api.ErrHead)
	recoverFails(t, d, 3, 3, 0, api.ErrArg)
	recoverFails(t, d, 1, 0, 0, api.ErrSize)
	d.Rot(12, 1)
	d.Sync()
	recoverFails(t, d, 1, 3, 11, api.ErrRot)
	d.Rot(12, 1)
	recoverFails(t, d, 1, 3, 22, api.ErrRot)
}
