package command_test

import (
	"bytes"
	"fmt"
	"math"
	"strings"
	"testing"

	"moot/api"
	"moot/command"
	"moot/wire"
)

// dice throws the same numbers every time.
type dice uint64

func (d *dice) below(n int) int {
	*d = *d*6364136223846793005 + 1442695040888963407
	return int(uint64(*d>>33) % uint64(n))
}

func pick[T any](d *dice, from []T) T { return from[d.below(len(from))] }

// fieldNames are the fields beside Kind in the order of P4.1.
func fieldNames() []string { return []string{"Client", "Req", "Key", "Key2", "Val", "Old", "N"} }

// has is the chapter's table once more, by names.
func has(kind int, field string) bool {
	row := []string{"", "Key", "Key Val", "Key", "Key N", "Key Old Val", "Key Key2", "Key Key2", "Key Key2"}[kind]
	if kind > 0 {
		row += " Client Req"
	}
	for _, f := range strings.Fields(row) {
		if f == field {
			return true
		}
	}
	return false
}

// lastKind is the last one that version v has.
func lastKind(v int) int {
	if v == 1 {
		return 5
	}
	return 8
}

func longest(v int) int {
	if v == 1 {
		return 1024
	}
	return 65536
}

// text is n bytes that are not all alike.
func text(n int) string {
	b := make([]byte, n)
	for i := range b {
		b[i] = byte(i*i + 'a')
	}
	return string(b)
}

// plain is a valid command of the kind with nothing greater than it must be.
func plain(kind int) api.Cmd {
	if kind == 0 {
		return api.Cmd{}
	}
	c := api.Cmd{Kind: kind, Key: "k"}
	if has(kind, "Key2") {
		c.Key2 = "l"
	}
	return c
}

// full is a valid command of the kind with no field zero that it has.
func full(kind int) api.Cmd {
	c := plain(kind)
	if kind == 0 {
		return c
	}
	c.Client, c.Req, c.Key = 7, 300, "key"
	if has(kind, "Key2") {
		c.Key2 = "kez"
	}
	if has(kind, "Val") {
		c.Val = "value"
	}
	if has(kind, "Old") {
		c.Old = "old"
	}
	if has(kind, "N") {
		c.N = -5
	}
	return c
}

// greatest is a valid command of the kind with everything as great as version v allows.
func greatest(v, kind int) api.Cmd {
	if kind == 0 {
		return api.Cmd{}
	}
	c := api.Cmd{Kind: kind, Client: 65535, Req: 1 << 30, Key: text(64)}
	if has(kind, "Key2") {
		c.Key2 = "\xff" + text(63)
	}
	if has(kind, "Val") {
		c.Val = text(longest(v))
	}
	if has(kind, "Old") {
		c.Old = "o" + text(longest(v)-1)
	}
	if has(kind, "N") {
		c.N = math.MinInt64
	}
	return c
}

// key leans to short ones that begin alike, and to the greatest length.
func (d *dice) key() string {
	n := 1 + d.below(4)
	switch d.below(12) {
	case 0:
		n = 63 + d.below(2)
	case 1:
		n = 1 + d.below(64)
	}
	b := make([]byte, n)
	for i := range b {
		b[i] = pick(d, []byte{0, 'a', 'a', 'b', 0xff})
	}
	return string(b)
}

// value is mostly short; the great lengths come seldom.
func (d *dice) value(v int) string {
	switch d.below(40) {
	case 0:
		return text(pick(d, []int{127, 128, 1023, 1024}))
	case 1:
		return text(min(longest(v), pick(d, []int{1025, 16383, 16384, 65535, 65536})))
	}
	return text(d.below(6))
}

// command is a valid one of version v.
func (d *dice) command(v int) api.Cmd {
	kind := d.below(lastKind(v) + 1)
	if kind == 0 {
		return api.Cmd{}
	}
	c := api.Cmd{Kind: kind, Key: d.key()}
	c.Client = pick(d, []int{0, 1, 127, 128, 16383, 16384, 65535, d.below(65536)})
	c.Req = pick(d, []int{0, 1, 127, 128, 1<<21 - 1, 1 << 21, 1<<28 - 1, 1 << 28, 1 << 30, d.below(1 << 30)})
	if has(kind, "Key2") {
		for c.Key2 = d.key(); c.Key2 == c.Key; {
			c.Key2 = d.key()
		}
		if kind == api.Count && c.Key2 < c.Key {
			c.Key, c.Key2 = c.Key2, c.Key
		}
	}
	if has(kind, "Val") {
		c.Val = d.value(v)
	}
	if has(kind, "Old") {
		c.Old = d.value(v)
	}
	if has(kind, "N") {
		c.N = pick(d, []int64{0, 1, -1, 63, 64, -64, -65, math.MaxInt64, math.MinInt64, int64(d.below(1 << 30))})
	}
	return c
}

func noVersions() []int {
	return []int{0, 3, -1, -2, 4, 255, 256, 257, 258, 1<<32 + 1, 1<<32 + 2, math.MinInt, math.MaxInt}
}

// noKinds are numbers that are no kind at any version.
func noKinds() []int {
	return []int{-1, -2, -9, 9, 10, 15, 16, 64, 127, 128, 255, 256, 257, 264, 1 << 32, 1<<32 + 1, math.MinInt, math.MaxInt}
}

func join(parts ...[]byte) []byte { return bytes.Join(parts, nil) }

// run is n times the byte b, then the tail.
func run(b byte, n int, tail ...byte) []byte { return append(bytes.Repeat([]byte{b}, n), tail...) }

func number(x uint64) []byte { return wire.PutUint(x) }

func encoded(t *testing.T, v int, c api.Cmd) []byte {
	t.Helper()
	b, e := command.Encode(v, c)
	if e != api.OK {
		t.Fatalf("Encode(%d, %s) = %d", v, short(c), e)
	}
	return b
}

// short tells a command without its long texts.
func short(c api.Cmd) string {
	cut := func(s string) string {
		if len(s) > 12 {
			return fmt.Sprintf("%s.. (%d bytes)", s[:12], len(s))
		}
		return s
	}
	c.Key, c.Key2, c.Val, c.Old = cut(c.Key), cut(c.Key2), cut(c.Val), cut(c.Old)
	return fmt.Sprintf("%+q", fmt.Sprintf("%+v", c))
}
