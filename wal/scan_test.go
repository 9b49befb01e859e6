package wal_test

import (
	"bytes"
	"testing"

	"moot/api"
	"moot/record"
)

func TestP10_4Examples(t *testing.T) {
	h, a, b := frameH(), frameA(), frameB()
	all, ha := join(h, a, b), len(h)+len(a)
	torn := all[:len(all)-1]
	spoilt := changed(all, len(h)+5, 4)
	for _, c := range []struct {
		data          []byte
		synced, id, n int
		want          []api.Record
		place         int
		e             api.Errno
	}{
		{all, len(all), 1, 3, []api.Record{recA, recB}, len(all), api.OK},
		{torn, ha, 1, 3, []api.Record{recA}, ha, api.OK},
		{torn, ha + 1, 1, 3, nil, ha, api.ErrRot},
		{spoilt, 0, 1, 3, nil, len(h), api.OK},
		{spoilt, len(h) + 1, 1, 3, nil, len(h), api.ErrRot},
		{join(h, a), 0, 2, 3, nil, 0, api.ErrHead},
		{a, 0, 1, 3, nil, 0, api.ErrHead},
		{a, 1, 1, 3, nil, 0, api.ErrRot},
		{nil, 0, 1, 3, nil, 0, api.ErrHead},
		{nil, 1, 1, 3, nil, 0, api.ErrArg},
		{join(h, a, h, b), 0, 1, 3, []api.Record{recA}, ha, api.OK},
	} {
		scans(t, c.data, c.synced, c.id, c.n, c.want, c.place, c.e)
	}
}

func TestP10_4Synced(t *testing.T) {
	all := logOf(1, 3, recA, recB)
	for _, synced := range append(wild(), -1, -2, len(all)+1, len(all)+2) {
		scans(t, all, synced, 1, 3, nil, 0, api.ErrArg)
	}
	for synced := range len(all) + 1 {
		scans(t, all, synced, 1, 3, []api.Record{recA, recB}, len(all), api.OK)
	}
	for _, data := range [][]byte{nil, {}, all[:0]} {
		scans(t, data, -1, 1, 3, nil, 0, api.ErrArg)
		scans(t, data, 0, 1, 3, nil, 0, api.ErrHead)
		scans(t, data, 1, 1, 3, nil, 0, api.ErrArg)
	}
}

// A mark that may not be is told ahead of what is amiss with the bytes, but behind id and n.
func TestP10_4SyncedAheadOfBytes(t *testing.T) {
	for _, data := range [][]byte{nil, []byte("garbage"), headOf(0, 3), changed(logOf(1, 3, recA), 2, 1)} {
		for _, synced := range []int{-1, len(data) + 1} {
			scans(t, data, synced, 1, 3, nil, 0, api.ErrArg)
			scans(t, data, synced, 1, 0, nil, 0, api.ErrSize)
			scans(t, data, synced, 9, 8, nil, 0, api.ErrSize)
			scans(t, data, synced, 3, 3, nil, 0, api.ErrArg)
		}
	}
}

func TestP10_4EverySort(t *testing.T) {
	eachLog(func(id, n int) {
		records := append(sorts(n), greatest(n), sorts(n)[0])
		all := logOf(id, n, records...)
		for _, synced := range []int{0, 10, 11, 12, len(all) / 2, len(all) - 1, len(all)} {
			scans(t, all, synced, id, n, records, len(all), api.OK)
		}
		scans(t, headOf(id, n), 0, id, n, nil, 11, api.OK)
		scans(t, headOf(id, n), 11, id, n, nil, 11, api.OK)
	})
}

// A log that ends at every byte, with the mark at each place up to there.
func TestP10_4EveryEnd(t *testing.T) {
	records := sorts(3)
	all, ends := logOf(1, 3, records...), endsOf(3, records...)
	for size := range len(all) + 1 {
		whole, p := 0, 0
		for i, end := range ends {
			if end <= size {
				whole, p = i, end
			}
		}
		for synced := range size + 1 {
			switch {
			case p < synced:
				scans(t, all[:size], synced, 1, 3, nil, p, api.ErrRot)
			case p == 0:
				scans(t, all[:size], synced, 1, 3, nil, 0, api.ErrHead)
			default:
				scans(t, all[:size], synced, 1, 3, records[:whole], p, api.OK)
			}
		}
		scans(t, all[:size], size+1, 1, 3, nil, 0, api.ErrArg)
	}
}

// stopsAt asks for the reading to end behind the records ahead of what is not right there.
func stopsAt(t *testing.T, ahead []api.Record, wrong []byte) {
	t.Helper()
	good := logOf(1, 3, ahead...)
	p := len(good)
	for _, behind := range [][]byte{nil, {0}, frameA(), join(frameB(), frameH())} {
		data := join(good, wrong, behind)
		for _, synced := range []int{0, 11, p - 1, p} {
			scans(t, data, synced, 1, 3, ahead, p, api.OK)
		}
		for _, synced := range []int{p + 1, len(data) - 1, len(data)} {
			if synced > p {
				scans(t, data, synced, 1, 3, nil, p, api.ErrRot)
			}
		}
	}
}

// wrongFrames are not right behind a Head, of replica 1 among 3.
func wrongFrames() [][]byte {
	var out [][]byte
	payload, _ := record.Encode(3, recB)
	for v := range 5 {
		if v != 2 {
			out = append(out, sealOf(v, payload))
		}
	}
	wide := recB
	wide.Deps = []int{0, 5, 5, 0, 1}
	out = append(out, framed(5, wide), framed(4, sorts(4)[0]), framed(7, sorts(7)[5])) // vectors and rows that 3 don't have
	for i := range payload {
		out = append(out, sealOf(2, payload[:i]))
	}
	out = append(out, sealOf(2, append(bytes.Clone(payload), 0)), sealOf(2, []byte{6}), sealOf(2, []byte{0}), sealOf(2, join(payload, payload)))
	out = append(out, sealOf(2, []byte{2, 0x21, 0x01}), sealOf(2, make([]byte, 1<<20)), sealOf(2, []byte{1, 3, 3}))
	f := frameB()
	for at := range f {
		out = append(out, changed(f, at, 1), changed(f, at, 0x80))
	}
	return append(out, []byte("garbage"), []byte{0}, []byte("M"), []byte("MT"), []byte{0x4d, 0x54, 2, 0x81, 0}, f[1:])
}

func TestP10_4FramesThatAreNotRight(t *testing.T) {
	for _, wrong := range wrongFrames() {
		for _, ahead := range [][]api.Record{nil, {recA}, {recB, recA, greatest(3)}} {
			stopsAt(t, ahead, wrong)
		}
	}
}

// A Head stands nowhere but at byte 0, whoever's it is.
func TestP10_4HeadInTheMiddle(t *testing.T) {
	eachLog(func(id, n int) {
		stopsAt(t, nil, headOf(id, n))
		stopsAt(t, []api.Record{recA, recB}, headOf(id, n))
	})
}

// At byte 0 nothing but a Head is right.
func TestP10_4NoHeadAtTheBeginning(t *testing.T) {
	wrong := wrongFrames()
	for _, r := range append(sorts(3), greatest(3)) {
		wrong = append(wrong, framed(3, r))
	}
	wrong = append(wrong, sealOf(1, []byte{1, 1, 3}), sealOf(0, []byte{1, 1, 3}), sealOf(2, []byte{1, 1}), sealOf(2, []byte{1, 1, 3, 0}), sealOf(2, nil))
	for at := range 11 {
		wrong = append(wrong, changed(frameH(), at, 2), frameH()[:max(1, at)])
	}
	for _, w := range wrong {
		for _, data := range [][]byte{w, join(w, frameH()), join(w, frameA())} {
			scans(t, data, 0, 1, 3, nil, 0, api.ErrHead)
			scans(t, data, 1, 1, 3, nil, 0, api.ErrRot)
			scans(t, data, len(data), 1, 3, nil, 0, api.ErrRot)
		}
	}
}

// The Head of another id or another n is a right frame: what stands behind it is read too.
func TestP10_4HeadsOfOthers(t *testing.T) {
	eachLog(func(id, n int) {
		data := join(headOf(id, n), frameA(), []byte("torn"))
		eachLog(func(other, size int) {
			if size < 3 { // the record is none among fewer
				return
			}
			if other == id && size == n {
				scans(t, data, 22, other, size, []api.Record{recA}, 22, api.OK)
			} else {
				scans(t, data, 0, other, size, nil, 0, api.ErrHead)
				scans(t, data, 22, other, size, nil, 0, api.ErrHead)
			}
			scans(t, data, 23, other, size, nil, 22, api.ErrRot)
		})
	})
}

// Records are held against the n that is asked for: what another's log holds may not be right there, and rot is told ahead of the Head.
func TestP10_4RotAheadOfHead(t *testing.T) {
	big := sorts(5)[0] // of row 4
	data := logOf(1, 5, recA, big)
	scans(t, data, len(data), 1, 5, []api.Record{recA, big}, len(data), api.OK)
	scans(t, data, 22, 1, 3, nil, 0, api.ErrHead)
	scans(t, data, 23, 1, 3, nil, 22, api.ErrRot)
	scans(t, data, len(data), 1, 3, nil, 22, api.ErrRot)
	scans(t, data, len(data), 2, 5, nil, 0, api.ErrHead)
	scans(t, changed(data, 11, 1), 11, 2, 5, nil, 0, api.ErrHead)
	scans(t, changed(data, 11, 1), 12, 2, 5, nil, 11, api.ErrRot)
	scans(t, changed(data, 0, 1), 0, 2, 5, nil, 0, api.ErrHead)
	scans(t, changed(data, 0, 1), 1, 2, 5, nil, 0, api.ErrRot)
}

// Scan is not bound to what a disk holds.
func TestP10_4MoreThanADisk(t *testing.T) {
	var records []api.Record
	for len(records)*131000 < topDisk+200000 {
		records = append(records, greatest(3))
	}
	all := logOf(1, 3, records...)
	if len(all) <= topDisk {
		t.Fatalf("%d bytes are not more than a disk's", len(all))
	}
	scans(t, all, len(all), 1, 3, records, len(all), api.OK)
}

// Many small records: as many as a disk has room for.
func TestP10_4ManyRecords(t *testing.T) {
	count := (topDisk - 11) / 11
	all := join(frameH(), bytes.Repeat(frameA(), count))
	records := make([]api.Record, count)
	for i := range records {
		records[i] = recA
	}
	scans(t, all, len(all), 1, 3, records, len(all), api.OK)
	scans(t, all[:len(all)-1], len(all)-11, 1, 3, records[1:], len(all)-11, api.OK)
}
