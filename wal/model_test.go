package wal_test

import (
	"encoding/binary"
	"hash/crc32"
	"testing"

	"moot/api"
	"moot/disk"
	"moot/record"
	"moot/wal"
)

// The model is the chapter's words once more, on frames by the library's sum and numbers.

// sealOf is the frame of a payload that is not too long.
func sealOf(v int, payload []byte) []byte {
	b := binary.AppendUvarint([]byte{0x4d, 0x54, byte(v)}, uint64(len(payload)))
	b = append(b, payload...)
	return append(b, librarySum(b)...)
}

func librarySum(b []byte) []byte {
	return binary.LittleEndian.AppendUint32(nil, crc32.Checksum(b, crc32.MakeTable(crc32.Castagnoli)))
}

// bounds are the places where the payload of the frame at the beginning of b begins and ends, by its length alone.
func bounds(b []byte) (begin, end int, ok bool) {
	if len(b) < 4 {
		return 0, 0, false
	}
	length, size := binary.Uvarint(b[3:])
	if size < 1 || size > 3 || length > 1<<20 || size > 1 && b[3+size-1] == 0 {
		return 0, 0, false
	}
	return 3 + size, 3 + size + int(length), true
}

// openOf is the payload of the frame of version 2 at the beginning of b and how many bytes the frame has.
func openOf(b []byte) (payload []byte, size int, ok bool) {
	begin, end, ok := bounds(b)
	if !ok || string(b[:3]) != "MT\x02" || len(b) < end+4 || string(librarySum(b[:end])) != string(b[end:end+4]) {
		return nil, 0, false
	}
	return b[begin:end], end + 4, true
}

// scanOf is Scan by the words of P10.4.
func scanOf(data []byte, synced, id, n int) ([]api.Record, int, api.Errno) {
	if n < 1 || n > 7 {
		return nil, 0, api.ErrSize
	}
	if id < 0 || id > n-1 || synced < 0 || synced > len(data) {
		return nil, 0, api.ErrArg
	}
	var all []api.Record
	p := 0
	for p < len(data) {
		payload, size, ok := openOf(data[p:])
		if !ok {
			break
		}
		r, e := record.Decode(n, payload)
		if e != api.OK || p == 0 && r.Kind != 1 || p > 0 && r.Kind == 1 {
			break
		}
		all = append(all, r)
		p += size
	}
	if p < synced {
		return nil, p, api.ErrRot
	}
	if p == 0 {
		return nil, 0, api.ErrHead
	}
	if all[0].Id != id || all[0].N != n {
		return nil, 0, api.ErrHead
	}
	return all[1:], p, api.OK
}

// spoiltLog is a log's bytes, now and then with frames that are not right, turned bytes, or a torn end.
func (d *dice) spoiltLog(id, n int) []byte {
	var b []byte
	if d.below(20) > 0 {
		b = headOf(id, n)
	}
	for range d.below(8) {
		r := d.record(n)
		payload, _ := record.Encode(n, r)
		b = append(b, d.spoilt(payload)...)
	}
	if len(b) > 0 && d.below(4) == 0 {
		b[d.below(len(b))] ^= 1 << d.below(8)
	}
	return b[:len(b)-d.below(2)*d.below(len(b)+1)/4]
}

// spoilt is the payload's frame, but now and then another.
func (d *dice) spoilt(payload []byte) []byte {
	v := 2
	switch d.below(40) {
	case 0:
		payload[d.below(len(payload))] ^= 1 << d.below(8)
	case 1:
		payload = payload[:d.below(len(payload))]
	case 2:
		payload = append(payload, byte(d.below(256)))
	case 3:
		v = d.below(2)
	case 4:
		f := sealOf(v, payload)
		return f[:d.below(len(f))]
	case 5:
		return headOf(d.below(3), 3)
	case 6:
		return framed(7, d.record(7))
	}
	return sealOf(v, payload)
}

func TestP10_4AgainstTheModel(t *testing.T) {
	d, answers := dice(104), map[api.Errno]int{}
	for range 20000 {
		n := 1 + d.below(7)
		id := d.below(n)
		b := d.spoiltLog(id, n)
		marks := []int{0, len(b), d.below(len(b) + 1), min(11, len(b)), len(b) + 1, -1}
		asked, of := pick(&d, []int{id, id, id, id, d.below(n)}), pick(&d, []int{n, n, n, n, 1 + d.below(7)})
		for _, mark := range marks {
			want, p, e := scanOf(b, mark, asked, of)
			scans(t, b, mark, asked, of, want, p, e)
			answers[e]++
		}
	}
	for _, e := range []api.Errno{api.OK, api.ErrArg, api.ErrRot, api.ErrHead} {
		if answers[e] < 1000 {
			t.Errorf("of all answers only %d were %d", answers[e], e)
		}
	}
}

// Recover is Scan over the disk's bytes and mark, then the cut.
func TestP10_5AgainstTheModel(t *testing.T) {
	d := dice(105)
	for range 5000 {
		n := 1 + d.below(7)
		id := d.below(n)
		b := d.spoiltLog(id, n)
		mark := pick(&d, []int{0, len(b), d.below(len(b) + 1), min(11, len(b))})
		on := image(t, b, mark)
		asked := pick(&d, []int{id, id, id, id, d.below(n)})
		want, p, e := scanOf(b, mark, asked, n)
		if e != api.OK {
			recoverFails(t, on, asked, n, p, e)
			continue
		}
		waits(t, recovers(t, on, asked, n, want, p), 0)
		shows(t, on, b[:p], p)
	}
}

// life is a log that crashes and is taken up again, beside what should stand in it.
type life struct {
	id, n   int
	on      *disk.Disk
	log     *wal.Log
	records []api.Record // all that were appended and not lost
	synced  int          // of these
	waiting int
}

func (x *life) bytes() []byte { return logOf(x.id, x.n, x.records...) }

// step does one thing to both.
func (x *life) step(t *testing.T, d *dice) {
	switch d.below(12) {
	case 0:
		x.crash(t, d)
	case 1, 2:
		x.log.Sync()
		x.synced, x.waiting = len(x.records), 0
	case 3:
		bad := d.record(x.n)
		bad.Inst.Num = 0
		appends(t, x.log, bad, api.ErrRecInst)
		appends(t, x.log, headRecord(x.id, x.n), api.ErrSecond)
	default:
		r := d.record(x.n)
		appends(t, x.log, r, api.OK)
		x.records = append(x.records, r)
		x.waiting++
	}
}

// crash loses some of the tail and takes the log up again.
func (x *life) crash(t *testing.T, d *dice) {
	ends := endsOf(x.n, x.records...)
	mark := ends[x.synced]
	keep := d.below(ends[len(ends)-1] - mark + 3)
	x.on.Crash(keep)
	whole := x.synced
	for whole+1 < len(ends) && ends[whole+1] <= mark+keep {
		whole++
	}
	x.records = x.records[:whole:whole]
	x.log = recovers(t, x.on, x.id, x.n, x.records, ends[whole])
	x.synced, x.waiting = whole, 0
}

func TestWalks(t *testing.T) {
	d := dice(10)
	for range 300 {
		n := 1 + d.below(7)
		x := &life{id: d.below(n), n: n, on: disk.New()}
		x.log = creates(t, x.on, x.id, x.n)
		for range 40 {
			x.step(t, &d)
			waits(t, x.log, x.waiting)
			shows(t, x.on, x.bytes(), endsOf(n, x.records...)[x.synced])
		}
	}
}
