package command_test

import (
	"math"
	"strings"
	"testing"

	"moot/api"
	"moot/command"
)

func checks(t *testing.T, v int, c api.Cmd, want api.Errno) {
	t.Helper()
	if e := command.Check(v, c); e != want {
		t.Errorf("Check(%d, %s) = %d, want %d", v, short(c), e, want)
	}
}

// checksBoth asks both versions, where the kind is one of both.
func checksBoth(t *testing.T, c api.Cmd, want api.Errno) {
	t.Helper()
	checks(t, 2, c, want)
	if c.Kind <= lastKind(1) {
		checks(t, 1, c, want)
	} else {
		checks(t, 1, c, api.ErrKind)
	}
}

func TestP4_1Examples(t *testing.T) {
	checks(t, 1, api.Cmd{Kind: 2, Client: 7, Req: 1, Key: "k", Val: "v"}, api.OK)
	checks(t, 1, api.Cmd{Kind: 6, Key: "k", Key2: "l"}, api.ErrKind)
	checks(t, 2, api.Cmd{Kind: 6, Key: "k", Key2: "l"}, api.OK)
	checks(t, 2, api.Cmd{Kind: 6, Key: "k", Key2: "k"}, api.ErrKey2)
	checks(t, 2, api.Cmd{Kind: 8, Key: "b", Key2: "a"}, api.ErrKey2)
	checks(t, 1, api.Cmd{Kind: 1, Key: "k", Val: "v"}, api.ErrField)
	checks(t, 1, api.Cmd{Kind: 0, Req: 1}, api.ErrField)
	checks(t, 2, api.Cmd{Kind: 2, Client: -1, Key: ""}, api.ErrClient)
	checks(t, 3, api.Cmd{Kind: 99}, api.ErrVersion)
}

func TestP4_1Versions(t *testing.T) {
	for _, v := range noVersions() {
		for kind := range 9 {
			checks(t, v, plain(kind), api.ErrVersion)
			checks(t, v, full(kind), api.ErrVersion)
			checks(t, v, api.Cmd{Kind: kind, Client: -1, Key: text(65), N: 1}, api.ErrVersion)
		}
		for _, kind := range noKinds() {
			checks(t, v, api.Cmd{Kind: kind}, api.ErrVersion)
		}
	}
}

func TestP4_1Kinds(t *testing.T) {
	for kind := range 9 {
		for _, c := range []api.Cmd{plain(kind), full(kind)} {
			checksBoth(t, c, api.OK)
		}
		for v := 1; v <= 2; v++ {
			if kind <= lastKind(v) {
				checks(t, v, greatest(v, kind), api.OK)
			}
		}
	}
	for _, kind := range noKinds() {
		for _, c := range []api.Cmd{{}, plain(1), full(8), {Client: -1, Req: -1, Key: text(65), N: 1}} {
			c.Kind = kind
			checks(t, 1, c, api.ErrKind)
			checks(t, 2, c, api.ErrKind)
		}
	}
	for kind := 6; kind <= 8; kind++ {
		checks(t, 1, api.Cmd{Kind: kind, Client: -1, Val: "v"}, api.ErrKind)
	}
}

// filled are a command with one field not zero, in all telling ways.
func filled(c api.Cmd, field string) []api.Cmd {
	var out []api.Cmd
	for i, x := range []int{1, -1, 65535, 65536, 1 << 30, 1<<30 + 1, 1 << 32, math.MinInt, math.MaxInt} {
		d, t := c, []string{"\x00", "k", "l", "a", "zz", text(64), text(65), text(1025), text(65537)}[i]
		switch field {
		case "Client":
			d.Client = x
		case "Req":
			d.Req = x
		case "Key":
			d.Key = t
		case "Key2":
			d.Key2 = t
		case "Val":
			d.Val = t
		case "Old":
			d.Old = t
		case "N":
			d.N = int64(x)
		}
		out = append(out, d)
	}
	return out
}

func TestP4_1FieldsThatAKindDoesNotHave(t *testing.T) {
	for kind := range 9 {
		for _, field := range fieldNames() {
			if has(kind, field) {
				continue
			}
			for _, c := range append(filled(plain(kind), field), filled(full(kind), field)...) {
				checksBoth(t, c, api.ErrField)
			}
		}
	}
}

func TestP4_1Numbers(t *testing.T) {
	for kind := 1; kind <= 8; kind++ {
		for _, c := range []api.Cmd{plain(kind), full(kind)} {
			for _, x := range []int{0, 1, 255, 256, 65534, 65535} {
				c.Client = x
				checksBoth(t, c, api.OK)
			}
			for _, x := range []int{-1, -2, -65535, 65536, 65537, 1 << 32, 1<<32 + 1, math.MinInt, math.MaxInt} {
				c.Client = x
				checksBoth(t, c, api.ErrClient)
			}
			c.Client = 0
			for _, x := range []int{0, 1, 65536, 1<<30 - 1, 1 << 30} {
				c.Req = x
				checksBoth(t, c, api.OK)
			}
			for _, x := range []int{-1, -2, -1 << 30, 1<<30 + 1, 1 << 31, 1 << 32, 1<<32 + 1, math.MinInt, math.MaxInt} {
				c.Req = x
				checksBoth(t, c, api.ErrReq)
			}
		}
	}
	for _, n := range []int64{0, 1, -1, 1 << 31, 1 << 32, math.MaxInt64, math.MinInt64} {
		checksBoth(t, api.Cmd{Kind: api.Add, Key: "k", N: n}, api.OK)
	}
}

func TestP4_1Keys(t *testing.T) {
	for kind := 1; kind <= 8; kind++ {
		c := full(kind)
		for _, key := range []string{"k", "\x00", "\xff", text(2), text(63), text(64), strings.Repeat("\x00", 64)} {
			c.Key = key
			if has(kind, "Key2") {
				c.Key2 = "\xff\xff"
			}
			checksBoth(t, c, api.OK)
		}
		for _, key := range []string{"", text(65), text(66), text(128), text(256), text(257), strings.Repeat("\x00", 65), text(70000)} {
			c.Key = key
			checksBoth(t, c, api.ErrKey)
			if has(kind, "Key2") {
				c.Key2 = key
				checksBoth(t, c, api.ErrKey)
			}
		}
	}
}

func TestP4_1SecondKeys(t *testing.T) {
	long := strings.Repeat("k", 64)
	for _, p := range []struct {
		key, key2   string
		move, count api.Errno
	}{
		{"k", "", api.ErrKey2, api.ErrKey2},
		{"k", "l", api.OK, api.OK},
		{"k", "j", api.OK, api.ErrKey2},
		{"k", "k", api.ErrKey2, api.ErrKey2},
		{"k", "k\x00", api.OK, api.OK},
		{"k\x00", "k", api.OK, api.ErrKey2},
		{"k\x00", "k\x00", api.ErrKey2, api.ErrKey2},
		{"k", "\xff", api.OK, api.OK},
		{"\x7f", "\x80", api.OK, api.OK},
		{"\x80", "\x7f", api.OK, api.ErrKey2},
		{"\xff", "k", api.OK, api.ErrKey2},
		{"ab", "b", api.OK, api.OK},
		{"b", "ab", api.OK, api.ErrKey2},
		{"k", long, api.OK, api.OK},
		{long, "k", api.OK, api.ErrKey2},
		{long, "l", api.OK, api.OK},
		{long, long, api.ErrKey2, api.ErrKey2},
		{long, long[1:] + "l", api.OK, api.OK},
		{"k", long + "k", api.ErrKey2, api.ErrKey2},
		{long, long + "k", api.ErrKey2, api.ErrKey2},
		{"k", strings.Repeat("l", 65), api.ErrKey2, api.ErrKey2},
		{"k", strings.Repeat("l", 320), api.ErrKey2, api.ErrKey2},
	} {
		checks(t, 2, api.Cmd{Kind: api.Move, Key: p.key, Key2: p.key2}, p.move)
		checks(t, 2, api.Cmd{Kind: api.Copy, Key: p.key, Key2: p.key2}, p.move)
		checks(t, 2, api.Cmd{Kind: api.Count, Key: p.key, Key2: p.key2}, p.count)
	}
}

func TestP4_1Values(t *testing.T) {
	for v := 1; v <= 2; v++ {
		for _, n := range []int{0, 1, longest(v) - 1, longest(v)} {
			checks(t, v, api.Cmd{Kind: api.Put, Key: "k", Val: text(n)}, api.OK)
			checks(t, v, api.Cmd{Kind: api.Cas, Key: "k", Val: text(n), Old: text(longest(v))}, api.OK)
			checks(t, v, api.Cmd{Kind: api.Cas, Key: "k", Val: text(longest(v)), Old: text(n)}, api.OK)
		}
		for _, n := range []int{longest(v) + 1, longest(v) + 2, 2 * longest(v), 1 << 20} {
			checks(t, v, api.Cmd{Kind: api.Put, Key: "k", Val: text(n)}, api.ErrVal)
			checks(t, v, api.Cmd{Kind: api.Cas, Key: "k", Val: text(n)}, api.ErrVal)
			checks(t, v, api.Cmd{Kind: api.Cas, Key: "k", Val: text(n), Old: text(n)}, api.ErrVal)
			checks(t, v, api.Cmd{Kind: api.Cas, Key: "k", Old: text(n)}, api.ErrOld)
		}
	}
}

// spoilt is c with the field amiss, and the error that it is then.
func spoilt(v int, c api.Cmd, field string) (api.Cmd, api.Errno) {
	own := map[string]api.Errno{"Client": api.ErrClient, "Req": api.ErrReq, "Key": api.ErrKey, "Key2": api.ErrKey2, "Val": api.ErrVal, "Old": api.ErrOld}[field]
	if !has(c.Kind, field) {
		own = api.ErrField
	}
	switch field {
	case "Client":
		c.Client = -1
	case "Req":
		c.Req = 1<<30 + 1
	case "Key":
		c.Key = map[bool]string{true: "", false: "k"}[has(c.Kind, field)]
	case "Key2":
		c.Key2 = map[bool]string{true: c.Key, false: "zz"}[has(c.Kind, field)]
	case "Val":
		c.Val = text(longest(v) + 1)
	case "Old":
		c.Old = text(longest(v) + 1)
	case "N":
		c.N = 1
	}
	return c, own
}

// TestP4_1TheFirstFaultIsTheAnswer spoils every set of fields at once.
func TestP4_1TheFirstFaultIsTheAnswer(t *testing.T) {
	names := fieldNames()
	for v := 1; v <= 2; v++ {
		for kind := 0; kind <= lastKind(v); kind++ {
			for set := range 1 << len(names) {
				c, want := plain(kind), api.OK
				for i, field := range names {
					if set>>i&1 == 0 {
						continue
					}
					var e api.Errno
					if c, e = spoilt(v, c, field); want == api.OK {
						want = e
					}
				}
				checks(t, v, c, want)
			}
		}
	}
}

func TestP4_1ValidAtOneIsValidAtTwo(t *testing.T) {
	d := dice(1)
	for range 2000 {
		c := d.command(1)
		checks(t, 1, c, api.OK)
		checks(t, 2, c, api.OK)
		checks(t, 2, d.command(2), api.OK)
	}
}
