package command_test

import (
	"bytes"
	"math/big"
	"testing"

	"moot/api"
	"moot/command"
	"moot/wire"
)

// model reads a command once more from the words of P4.3, with sums of any size. It leaves by panic.
type model struct {
	v    int
	rest []byte
	c    api.Cmd
}

func (m *model) stopIf(wrong bool, e api.Errno) {
	if wrong {
		panic(e)
	}
}

func (m *model) number() *big.Int {
	x, size, e := wire.GetUint(m.rest)
	m.stopIf(e != api.OK, e)
	m.rest = m.rest[size:]
	return new(big.Int).SetUint64(x)
}

func (m *model) take(n *big.Int) string {
	m.stopIf(n.Cmp(big.NewInt(int64(len(m.rest)))) > 0, api.ErrShort)
	size := int(n.Int64())
	out := string(m.rest[:size])
	m.rest = m.rest[size:]
	return out
}

func within(x *big.Int, least, most int64) bool {
	return x.Cmp(big.NewInt(least)) >= 0 && x.Cmp(big.NewInt(most)) <= 0
}

func (m *model) bounded(most int64, own api.Errno) int {
	x := m.number()
	m.stopIf(!within(x, 0, most), own)
	return int(x.Int64())
}

func (m *model) text(least, most int64, own api.Errno) string {
	length := m.number()
	m.stopIf(!within(length, least, most), own)
	return m.take(length)
}

func (m *model) key2() string {
	first := m.number()
	m.stopIf(first.Cmp(big.NewInt(int64(len(m.c.Key)))) > 0, api.ErrKey2)
	length := m.number()
	m.stopIf(!within(new(big.Int).Add(first, length), 1, 64), api.ErrKey2)
	rest := m.take(length)
	shared := int(first.Int64())
	m.stopIf(shared < len(m.c.Key) && rest != "" && m.c.Key[shared] == rest[0], api.ErrForm)
	key2 := m.c.Key[:shared] + rest
	m.stopIf(key2 == m.c.Key || m.c.Kind == 8 && key2 <= m.c.Key, api.ErrKey2)
	return key2
}

func (m *model) read() {
	m.stopIf(len(m.rest) == 0, api.ErrShort)
	m.c.Kind = int(m.rest[0])
	m.stopIf(m.c.Kind > lastKind(m.v), api.ErrKind)
	m.rest = m.rest[1:]
	if m.c.Kind == 0 {
		return
	}
	m.c.Client = m.bounded(65535, api.ErrClient)
	m.c.Req = m.bounded(1<<30, api.ErrReq)
	m.c.Key = m.text(1, 64, api.ErrKey)
	if has(m.c.Kind, "Key2") {
		m.c.Key2 = m.key2()
	}
	if has(m.c.Kind, "Old") {
		m.c.Old = m.text(0, int64(longest(m.v)), api.ErrOld)
	}
	if has(m.c.Kind, "Val") {
		m.c.Val = m.text(0, int64(longest(m.v)), api.ErrVal)
	}
	if has(m.c.Kind, "N") {
		n, size, e := wire.GetInt(m.rest)
		m.stopIf(e != api.OK, e)
		m.c.N, m.rest = n, m.rest[size:]
	}
}

func modelDecode(v int, b []byte) (c api.Cmd, size int, e api.Errno) {
	defer func() {
		if given := recover(); given != nil {
			c, size, e = api.Cmd{}, 0, given.(api.Errno)
		}
	}()
	m := model{v: v, rest: b}
	m.read()
	return m.c, len(b) - len(m.rest), api.OK
}

// checkAgainstModel holds Decode against the model; what it takes is valid, and just what Encode would write.
func checkAgainstModel(t *testing.T, v int, b []byte) {
	t.Helper()
	want, size, fault := modelDecode(v, b)
	c, k, e := command.Decode(v, b)
	if c != want || k != size || e != fault {
		t.Fatalf("Decode(%d, %.60x) = %s, %d, %d, want %s, %d, %d", v, b, short(c), k, e, short(want), size, fault)
	}
	if e != api.OK {
		return
	}
	if e := command.Check(v, c); e != api.OK {
		t.Fatalf("Decode(%d, %.60x) = %s, but Check of that is %d", v, b[:k], short(c), e)
	}
	if again := encoded(t, v, c); !bytes.Equal(again, b[:k]) {
		t.Fatalf("Decode(%d, %.60x) = %s, but Encode of that is %.60x", v, b[:k], short(c), again)
	}
}

// TestP4_3EveryShortForm goes through all short byte strings over telling bytes, behind each kind.
func TestP4_3EveryShortForm(t *testing.T) {
	for kind := range byte(10) {
		for _, head := range [][]byte{{kind}, {kind, 0, 0}, {kind, 0, 0, 1, 1}, {kind, 0, 0, 2, 1, 2}} {
			level := [][]byte{head}
			for range 5 {
				var next [][]byte
				for _, b := range level {
					checkAgainstModel(t, 1, b)
					checkAgainstModel(t, 2, b)
					for _, x := range []byte{0, 1, 2, 3, 63, 64, 0x80, 0xff} {
						next = append(next, join(b, []byte{x}))
					}
				}
				level = next
			}
		}
	}
}

// TestP4_3OneByteChanged gives every byte of some forms every other value.
func TestP4_3OneByteChanged(t *testing.T) {
	for _, f := range forms() {
		for i := range f.b {
			for x := range 256 {
				b := bytes.Clone(f.b)
				b[i] = byte(x)
				for _, tail := range [][]byte{nil, run('a', 70)} {
					checkAgainstModel(t, 1, join(b, tail))
					checkAgainstModel(t, 2, join(b, tail))
				}
			}
		}
	}
}

func TestP4_3ThrownBytes(t *testing.T) {
	d := dice(5)
	for range 30000 {
		v := 1 + d.below(2)
		b := encoded(t, v, d.command(v))
		switch near := min(len(b), 150); d.below(5) {
		case 0:
			b[d.below(near)] ^= 1 << d.below(8)
		case 1:
			b = b[:d.below(len(b)+1)]
		case 2:
			at := d.below(near + 1)
			b = join(b[:at], number(uint64(1)<<d.below(64)-uint64(d.below(3))), b[at:])
		case 3:
			at := d.below(near)
			b = join(b[:at], b[at+1:])
		}
		checkAgainstModel(t, v, b)
		checkAgainstModel(t, 3-v, b)
	}
}

// smallCommands are all valid ones of version 2 whose fields are of a few telling ones.
func smallCommands() []api.Cmd {
	keys, values := []string{"a", "b", "aa", "ab", "\x00", "a\x00"}, []string{"", "a", "\x00", "aa"}
	out := []api.Cmd{{}}
	for kind := 1; kind <= 8; kind++ {
		for _, key := range keys {
			c := api.Cmd{Kind: kind, Client: len(out) % 2, Req: len(out) % 3, Key: key}
			for i := range 36 {
				d := c
				if has(kind, "Key2") {
					d.Key2 = keys[i%6]
				}
				if has(kind, "Val") {
					d.Val = values[i%4]
				}
				if has(kind, "Old") {
					d.Old = values[i/4%4]
				}
				if has(kind, "N") {
					d.N = int64(i*i*i - 200)
				}
				out = append(out, d)
			}
		}
	}
	return out
}

// Each command has a form of its own, and none begins another's.
func TestP4_3NoFormBeginsAnother(t *testing.T) {
	for v := 1; v <= 2; v++ {
		seen := map[string]api.Cmd{}
		for _, c := range smallCommands() {
			if command.Check(v, c) != api.OK {
				continue
			}
			b := string(encoded(t, v, c))
			if other, ok := seen[b]; ok && other != c {
				t.Errorf("version %d: %s and %s have one form", v, short(c), short(other))
			}
			seen[b] = c
		}
		for b, c := range seen {
			for i := range len(b) {
				if other, ok := seen[b[:i]]; ok {
					t.Errorf("version %d: the form of %s begins that of %s", v, short(other), short(c))
				}
			}
		}
		if len(seen) < 150 {
			t.Errorf("version %d: only %d forms were looked at", v, len(seen))
		}
	}
}
