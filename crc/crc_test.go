package crc_test

import (
	"bytes"
	"hash/crc32"
	"math"
	"testing"

	"moot/crc"
)

// walk takes n single steps, as the chapter tells one.
func walk(r uint32, n int) uint32 {
	for range n {
		low := r & 1
		r >>= 1
		if low == 1 {
			r ^= 0x82F63B78
		}
	}
	return r
}

// walked is Update by single steps.
func walked(c uint32, b []byte) uint32 {
	r := c ^ 0xFFFFFFFF
	for _, x := range b {
		r = walk(r^uint32(x), 8)
	}
	return r ^ 0xFFFFFFFF
}

type dice struct{ state uint64 }

func (d *dice) word() uint32 {
	d.state = d.state*6364136223846793005 + 1442695040888963407
	return uint32(d.state >> 32)
}

func (d *dice) bytes(n int) []byte {
	out := make([]byte, n)
	for i := range out {
		out[i] = byte(d.word() >> 7)
	}
	return out
}

// registers are numbers that are no sums of bytes that anybody knows, and each single bit.
func registers(d *dice) []uint32 {
	out := []uint32{0, 0xFFFFFFFF, 0x82F63B78, 0x7D09C487, 0xDEADBEEF, 0xE3069283}
	for i := range 32 {
		out = append(out, 1<<i, ^uint32(1<<i), d.word())
	}
	return out
}

func lists(d *dice) [][]byte {
	out := [][]byte{nil, {}, {0}, {0xFF}, []byte("a"), []byte("123456789"), make([]byte, 100), bytes.Repeat([]byte{0xFF}, 100)}
	for n := range 40 {
		out = append(out, d.bytes(n))
	}
	return append(out, d.bytes(1000), d.bytes(65537))
}

func cat(parts ...[]byte) []byte { return bytes.Join(parts, nil) }

func TestP2_1Sum(t *testing.T) {
	for _, c := range []struct {
		b    []byte
		want uint32
	}{
		{nil, 0},
		{[]byte{}, 0},
		{[]byte("a"), 0xC1D04330},
		{[]byte("abc"), 0x364B3FB7},
		{[]byte("123456789"), 0xE3069283},
		{[]byte{0}, 0x527D5351},
		{[]byte{0xFF}, 0xFF000000},
		{make([]byte, 32), 0x8A9136AA},
		{bytes.Repeat([]byte{0xFF}, 32), 0x62A8AB43},
	} {
		if got := crc.Sum(c.b); got != c.want {
			t.Errorf("Sum(%x) = %08X, want %08X", c.b, got, c.want)
		}
	}
}

func TestP2_1SumBySteps(t *testing.T) {
	table := crc32.MakeTable(crc32.Castagnoli)
	for _, b := range lists(&dice{1}) {
		got, steps, other := crc.Sum(b), walked(0, b), crc32.Checksum(b, table)
		if got != steps || got != other {
			t.Errorf("Sum of %d bytes = %08X, by steps %08X, by the library %08X", len(b), got, steps, other)
		}
	}
}

func TestP2_1EveryByte(t *testing.T) {
	for x := range 256 {
		for y := range 256 {
			b := []byte{byte(x), byte(y)}
			if got, want := crc.Sum(b), walked(0, b); got != want {
				t.Fatalf("Sum(%x) = %08X, want %08X", b, got, want)
			}
		}
	}
}

func TestP2_2UpdateFromAnyNumber(t *testing.T) {
	d := &dice{2}
	for _, c := range registers(d) {
		for _, b := range [][]byte{nil, {}, {0}, {0xFF}, d.bytes(1), d.bytes(3), d.bytes(50)} {
			if got, want := crc.Update(c, b), walked(c, b); got != want {
				t.Errorf("Update(%08X, %x) = %08X, want %08X", c, b, got, want)
			}
		}
		if crc.Update(c, nil) != c || crc.Update(c, []byte{}) != c {
			t.Errorf("Update(%08X, nothing) is not the same number", c)
		}
	}
}

func TestP2_2UpdateFromNothingIsSum(t *testing.T) {
	for _, b := range lists(&dice{3}) {
		if got, want := crc.Update(0, b), crc.Sum(b); got != want {
			t.Errorf("Update(0, %d bytes) = %08X, Sum is %08X", len(b), got, want)
		}
	}
}

func TestP2_2CutAnywhere(t *testing.T) {
	b := (&dice{4}).bytes(300)
	want := walked(0, b)
	for i := range len(b) + 1 {
		if got := crc.Update(crc.Sum(b[:i]), b[i:]); got != want {
			t.Errorf("cut at %d: %08X, want %08X", i, got, want)
		}
	}
	var byBytes uint32
	for i := range b {
		byBytes = crc.Update(byBytes, b[i:i+1])
	}
	if byBytes != want {
		t.Errorf("byte by byte: %08X, want %08X", byBytes, want)
	}
}

func TestP2_3Entry(t *testing.T) {
	for i := range 256 {
		if got, want := crc.Entry(i), walk(uint32(i), 8); got != want {
			t.Errorf("Entry(%d) = %08X, want %08X", i, got, want)
		}
	}
	for i, want := range map[int]uint32{0: 0, 1: 0xF26B8303, 128: 0x82F63B78, 255: 0xAD7D5351} {
		if got := crc.Entry(i); got != want {
			t.Errorf("Entry(%d) = %08X, want %08X", i, got, want)
		}
	}
}

func TestP2_3EntryOfNoByte(t *testing.T) {
	far := []int{-1, -2, -128, -255, -256, 256, 257, 384, 511, 512, math.MaxInt, math.MinInt, math.MaxInt - 255, math.MinInt + 1}
	for i := 9; i < 63; i++ {
		far = append(far, 1<<i, 1<<i+1, -1<<i, 1-1<<i)
	}
	for _, i := range far {
		if got := crc.Entry(i); got != 0 {
			t.Errorf("Entry(%d) = %08X, want 0", i, got)
		}
	}
}

func TestP2_3EntriesTakeBytesIn(t *testing.T) {
	d := &dice{5}
	for _, c := range registers(d) {
		for x := range 256 {
			r := ^c
			e := int(byte(r) ^ byte(x))
			if got, want := crc.Update(c, []byte{byte(x)}), ^(crc.Entry(e) ^ r>>8); got != want {
				t.Fatalf("Update(%08X, %02x) = %08X, by the entry %08X", c, x, got, want)
			}
		}
	}
}

func TestP2_5MendExamples(t *testing.T) {
	for _, c := range []struct {
		c, want uint32
		m       []byte
	}{
		{0, 0, []byte{0xAB, 0x9B, 0xE0, 0x9B}},
		{0xE3069283, 0xDEADBEEF, []byte{0xFB, 0xB7, 0x4F, 0xEC}},
	} {
		if got := crc.Mend(c.c, c.want); !bytes.Equal(got, c.m) {
			t.Errorf("Mend(%08X, %08X) = %X, want %X", c.c, c.want, got, c.m)
		}
	}
}

func TestP2_5MendBringsWhatIsWanted(t *testing.T) {
	d := &dice{6}
	for _, c := range registers(d) {
		for _, want := range registers(d) {
			m := crc.Mend(c, want)
			if len(m) != 4 {
				t.Fatalf("Mend(%08X, %08X) has %d bytes", c, want, len(m))
			}
			if got := crc.Update(c, m); got != want || walked(c, m) != want {
				t.Errorf("Update(%08X, %X) = %08X, want %08X", c, m, got, want)
			}
		}
	}
}

// There are just one such four bytes, so Mend finds any four bytes again.
func TestP2_5MendFindsTheFourBytes(t *testing.T) {
	d := &dice{7}
	for range 2000 {
		c, m := d.word(), d.bytes(4)
		if got := crc.Mend(c, walked(c, m)); !bytes.Equal(got, m) {
			t.Fatalf("from %08X the four bytes %X are found as %X", c, m, got)
		}
	}
}

func TestP2_7OwnSum(t *testing.T) {
	for _, b := range lists(&dice{8}) {
		s := crc.Sum(b)
		whole := cat(b, []byte{byte(s), byte(s >> 8), byte(s >> 16), byte(s >> 24)})
		if got := crc.Sum(whole); got != 0x48674BC7 {
			t.Errorf("%d bytes with their own sum: %08X", len(b), got)
		}
	}
}

func TestP2_8ArgumentsStay(t *testing.T) {
	d := &dice{9}
	for _, length := range []int{0, 1, 4, 7, 64} {
		room := d.bytes(length + 20)
		before := bytes.Clone(room)
		crc.Sum(room[:length])
		crc.Update(d.word(), room[:length])
		if !bytes.Equal(room, before) {
			t.Errorf("a list of %d bytes or its spare room was changed", length)
		}
	}
}

func TestP2_8MendAnswersShareNothing(t *testing.T) {
	type answer struct {
		c, want uint32
		m, is   []byte
	}
	d := &dice{10}
	var all []answer
	for range 300 {
		c, want := d.word(), d.word()
		for range 2 {
			m := crc.Mend(c, want)
			all = append(all, answer{c, want, m, bytes.Clone(m)})
		}
	}
	for _, a := range all {
		if !bytes.Equal(a.m, a.is) {
			t.Fatalf("what was written into another answer shows in Mend(%08X, %08X)", a.c, a.want)
		}
		spare := a.m[:cap(a.m)]
		for i := range spare {
			spare[i] ^= 0xFF
		}
		if again := crc.Mend(a.c, a.want); !bytes.Equal(again, a.is) {
			t.Fatalf("Mend(%08X, %08X) behind a change of its answer: %X, want %X", a.c, a.want, again, a.is)
		}
	}
}

// everyCall is what the five calls answer to one throw of arguments.
func everyCall(seed uint64) []uint32 {
	d := &dice{seed}
	b := d.bytes(int(seed % 50))
	m := crc.Mend(d.word(), d.word())
	return []uint32{
		crc.Sum(b),
		crc.Update(d.word(), b),
		crc.Entry(int(d.word() % 300)),
		crc.Join(d.word(), d.word(), int(d.word())),
		walked(0, m),
	}
}

func TestP2_8AnswersHangOnArgumentsAlone(t *testing.T) {
	const count = 200
	var first [count][]uint32
	for i := range first {
		first[i] = everyCall(uint64(i))
	}
	found := make(chan int)
	for worker := range 4 {
		go func() {
			differ := 0
			for i := range count {
				seed := (i*7 + worker*31) % count
				for k, got := range everyCall(uint64(seed)) {
					if got != first[seed][k] {
						differ++
					}
				}
			}
			found <- differ
		}()
	}
	for range 4 {
		if differ := <-found; differ != 0 {
			t.Errorf("%d answers are others in another order of the calls", differ)
		}
	}
}

func TestExamples(t *testing.T) {
	sum := func(s string) uint32 { return crc.Sum([]byte(s)) }
	for _, c := range []struct {
		call      string
		got, want uint32
	}{
		{`Update(Sum("12345"), "6789")`, crc.Update(sum("12345"), []byte("6789")), 0xE3069283},
		{`Join(Sum("12345"), Sum("6789"), 4)`, crc.Join(sum("12345"), sum("6789"), 4), 0xE3069283},
		{`Join(1, 0, 1)`, crc.Join(1, 0, 1), 0xF26B8303},
		{`Join(0x80000000, 0, 1)`, crc.Join(0x80000000, 0, 1), 0x00800000},
		{`Join(7, 9, 0)`, crc.Join(7, 9, 0), 0x0000000E},
		{`Join(7, 9, -1)`, crc.Join(7, 9, -1), 0},
		{`Entry(-1)`, crc.Entry(-1), 0},
		{`Entry(256)`, crc.Entry(256), 0},
	} {
		if c.got != c.want {
			t.Errorf("%s = %08X, want %08X", c.call, c.got, c.want)
		}
	}
}
