package wire_test

import (
	"fmt"
	"math"
	"math/big"
	"testing"

	"moot/api"
	"moot/wire"
)

// model is a reader written once more, from the words of P1.5 to P1.8, with exact numbers.
type model struct {
	data  []byte
	place int
	fault api.Errno
}

// modelNumber reads a number at the beginning of b: it looks for the last byte first, then judges it.
func modelNumber(b []byte) (*big.Int, int, api.Errno) {
	last := 0
	for last < 9 && last < len(b) && b[last] >= 128 {
		last++
	}
	switch {
	case last == len(b):
		return nil, 0, api.ErrShort
	case last == 9 && b[9] > 1:
		return nil, 0, api.ErrWide
	case last > 0 && b[last] == 0:
		return nil, 0, api.ErrForm
	}
	sum := new(big.Int)
	for i := last; i >= 0; i-- {
		sum.Mul(sum, big.NewInt(128))
		sum.Add(sum, big.NewInt(int64(b[i]%128)))
	}
	return sum, last + 1, api.OK
}

func (m *model) answer(got string, size int, fault api.Errno, nothing string) string {
	if m.fault != api.OK {
		return nothing
	}
	if m.fault = fault; fault != api.OK {
		return nothing
	}
	m.place += size
	return got
}

func (m *model) uint(most uint64) string {
	x, size, e := modelNumber(m.data[m.place:])
	if e == api.OK && x.Cmp(new(big.Int).SetUint64(most)) > 0 {
		e = api.ErrBig
	}
	return m.answer(fmt.Sprint(x), size, e, "0")
}

func (m *model) int() string {
	x, size, e := modelNumber(m.data[m.place:])
	if e != api.OK {
		return m.answer("", 0, e, "0")
	}
	half, odd := new(big.Int).DivMod(x, big.NewInt(2), new(big.Int))
	if odd.Sign() != 0 {
		half.Neg(half).Sub(half, big.NewInt(1))
	}
	return m.answer(half.String(), size, e, "0")
}

func (m *model) byte(most int) string {
	rest := m.data[m.place:]
	switch {
	case len(rest) == 0:
		return m.answer("", 0, api.ErrShort, "0")
	case int(rest[0]) > most:
		return m.answer("", 0, api.ErrBig, "0")
	}
	return m.answer(fmt.Sprint(rest[0]), 1, api.OK, "0")
}

func (m *model) text(least, most int) string {
	rest := m.data[m.place:]
	length, size, e := modelNumber(rest)
	switch {
	case e != api.OK:
	case length.Cmp(big.NewInt(int64(least))) < 0, length.Cmp(big.NewInt(int64(most))) > 0:
		e = api.ErrLength
	case length.Cmp(big.NewInt(int64(len(rest)-size))) > 0:
		e = api.ErrShort
	}
	if e != api.OK {
		return m.answer("", 0, e, `""`)
	}
	end := size + int(length.Int64())
	return m.answer(fmt.Sprintf("%q", rest[size:end]), end, e, `""`)
}

func (m *model) close() string {
	if m.fault == api.OK && m.place < len(m.data) {
		m.fault = api.ErrRest
	}
	return fmt.Sprint(int(m.fault))
}

// dice throws the same numbers every time.
type dice uint64

func (d *dice) below(n int) int {
	*d = *d*6364136223846793005 + 1442695040888963407
	return int(uint64(*d>>33) % uint64(n))
}

func pick[T any](d *dice, from []T) T { return from[d.below(len(from))] }

func throwBytes(d *dice) []byte {
	var b []byte
	for range d.below(6) {
		switch d.below(6) {
		case 0:
			b = append(b, wire.PutUint(pick(d, edges()))...)
		case 1:
			b = append(b, wire.PutInt(pick(d, signedEdges()))...)
		case 2:
			b = append(b, wire.PutText(pick(d, []string{"", "a", "hi", "\x00\xff", everyByte()}))...)
		case 3:
			b = append(b, run(pick(d, []byte{0x80, 0xff}), d.below(11), byte(d.below(4)))...)
		default:
			b = append(b, byte(d.below(256)))
		}
	}
	return b[:len(b)-d.below(min(len(b), 3)+1)]
}

// step makes one call on both readers: its name, and what each answers.
func step(d *dice, r *wire.Reader, m *model) (name, got, want string) {
	bounds := []int{0, 1, 2, 3, 5, 127, 128, 255, 256, -1, math.MaxInt, math.MaxInt, math.MinInt}
	switch d.below(9) {
	case 0, 1:
		most := pick(d, []uint64{math.MaxUint64, math.MaxUint64, pick(d, edges())})
		return fmt.Sprintf("Uint(%d)", most), fmt.Sprint(r.Uint(most)), m.uint(most)
	case 2, 3:
		return "Int()", fmt.Sprint(r.Int()), m.int()
	case 4, 5:
		most := pick(d, bounds)
		return fmt.Sprintf("Byte(%d)", most), fmt.Sprint(r.Byte(most)), m.byte(most)
	case 6, 7:
		least, most := min(pick(d, bounds), pick(d, bounds)), pick(d, bounds)
		return fmt.Sprintf("Text(%d, %d)", least, most), fmt.Sprintf("%q", r.Text(least, most)), m.text(least, most)
	}
	if d.below(4) > 0 {
		return "nothing", "", ""
	}
	return "Close()", fmt.Sprint(int(r.Close())), m.close()
}

func TestReaderAgainstModel(t *testing.T) {
	d := dice(1)
	for range 20000 {
		b := throwBytes(&d)
		r, m := wire.NewReader(b), &model{data: b}
		for range 8 {
			name, got, want := step(&d, r, m)
			e, at := r.Err()
			if got != want || e != m.fault || at != m.place || r.Left() != len(b)-m.place {
				t.Fatalf("%x: %s = %s, then %d, %d, want %s, then %d, %d", b, name, got, e, at, want, m.fault, m.place)
			}
		}
	}
}

// TestOneFormEach goes through all short byte strings over telling bytes: what is read is just what would be written.
func TestOneFormEach(t *testing.T) {
	telling := []byte{0, 1, 2, 0x7f, 0x80, 0x81, 0xff}
	level := [][]byte{nil}
	for range 5 {
		var next [][]byte
		for _, b := range level {
			checkOneForm(t, b)
			checkOneForm(t, join(run(0xff, 7), b))
			for _, x := range telling {
				next = append(next, join(b, []byte{x}))
			}
		}
		level = next
	}
}

func checkOneForm(t *testing.T, b []byte) {
	t.Helper()
	want, wantSize, wantErr := modelNumber(b)
	x, size, e := wire.GetUint(b)
	if size != wantSize || e != wantErr || e == api.OK && want.Cmp(new(big.Int).SetUint64(x)) != 0 {
		t.Errorf("GetUint(%x) = %d, %d, %d, want %v, %d, %d", b, x, size, e, want, wantSize, wantErr)
	}
	if e == api.OK && string(wire.PutUint(x)) != string(b[:size]) {
		t.Errorf("%x is read as %d, but that is written %x", b[:size], x, wire.PutUint(x))
	}
	y, size, e := wire.GetInt(b)
	if size != wantSize || e != wantErr {
		t.Errorf("GetInt(%x) = %d, %d, %d, want %d, %d", b, y, size, e, wantSize, wantErr)
	}
	if e == api.OK && string(wire.PutInt(y)) != string(b[:size]) {
		t.Errorf("%x is read as %d, but that is written %x", b[:size], y, wire.PutInt(y))
	}
}
