package command_test

import (
	"fmt"
	"slices"
	"strings"
	"testing"

	"moot/api"
	"moot/command"
)

func checkTouches(t *testing.T, c api.Cmd, want ...api.Touch) {
	t.Helper()
	if got := command.Touches(c); !slices.Equal(got, want) {
		t.Errorf("Touches(%s) = %.200q, want %.200q", short(c), fmt.Sprint(got), fmt.Sprint(want))
	}
}

func readOf(key string) api.Touch  { return api.Touch{Key: key, End: key + "\x00"} }
func writeOf(key string) api.Touch { return api.Touch{Key: key, End: key + "\x00", Write: true} }

// oddKeys are of any length, and of bytes at the ends.
func oddKeys() []string {
	return []string{"", "k", "l", "\x00", "\x00\x00", "k\x00", "\xff", "\xff\xff", text(64), text(65), text(1000), strings.Repeat("\x00", 70)}
}

func TestP4_4Touches(t *testing.T) {
	checkTouches(t, api.Cmd{Kind: 7, Key: "k", Key2: "l"}, api.Touch{Key: "k", End: "k\x00"}, api.Touch{Key: "l", End: "l\x00", Write: true})
	for _, k := range oddKeys() {
		for _, l := range oddKeys() {
			checkTouches(t, twoKeys(api.Noop, k, l))
			checkTouches(t, twoKeys(api.Get, k, l), readOf(k))
			checkTouches(t, twoKeys(api.Put, k, l), writeOf(k))
			checkTouches(t, twoKeys(api.Del, k, l), writeOf(k))
			checkTouches(t, twoKeys(api.Add, k, l), writeOf(k))
			checkTouches(t, twoKeys(api.Cas, k, l), writeOf(k))
			checkTouches(t, twoKeys(api.Move, k, l), writeOf(k), writeOf(l))
			checkTouches(t, twoKeys(api.Copy, k, l), readOf(k), writeOf(l))
			if l > k {
				checkTouches(t, twoKeys(api.Count, k, l), api.Touch{Key: k, End: l})
			} else {
				checkTouches(t, twoKeys(api.Count, k, l))
			}
			for _, kind := range noKinds() {
				checkTouches(t, twoKeys(kind, k, l))
			}
		}
	}
}

func TestP4_4CountBelowTheSameAbove(t *testing.T) {
	checkTouches(t, twoKeys(api.Count, "a", "k"), api.Touch{Key: "a", End: "k"})
	checkTouches(t, twoKeys(api.Count, "a", "a\x00"), api.Touch{Key: "a", End: "a\x00"})
	checkTouches(t, twoKeys(api.Count, "", "\x00"), api.Touch{Key: "", End: "\x00"})
	checkTouches(t, twoKeys(api.Count, "a", "a"))
	checkTouches(t, twoKeys(api.Count, "", ""))
	checkTouches(t, twoKeys(api.Count, "k", "a"))
	checkTouches(t, twoKeys(api.Count, "a\x00", "a"))
	checkTouches(t, twoKeys(api.Count, "\x80", "\x7f"))
}

// dressed is c with every field that Touches and Conflict don't look at set to something that Check refuses.
func dressed(c api.Cmd) api.Cmd {
	c.Client, c.Req, c.Val, c.Old, c.N = -1, 1<<30+1, text(70000), c.Key, 9
	return c
}

func TestP4_4KindAndKeysAlone(t *testing.T) {
	for kind := range 9 {
		c := plain(kind)
		checkTouches(t, dressed(c), command.Touches(c)...)
		for _, d := range filled(c, "N") {
			checkTouches(t, d, command.Touches(c)...)
		}
		if command.Check(2, dressed(c)) == api.OK {
			t.Errorf("Check takes %s", short(dressed(c)))
		}
	}
}

func checkConflict(t *testing.T, a, b api.Cmd, want bool) {
	t.Helper()
	if x, y := command.Conflict(a, b), command.Conflict(b, a); x != want || y != want {
		t.Errorf("Conflict(%s, %s) = %v, the other way round %v, want %v", short(a), short(b), x, y, want)
	}
}

func TestP4_5Examples(t *testing.T) {
	get, put := api.Cmd{Kind: api.Get, Key: "k"}, api.Cmd{Kind: api.Put, Key: "k"}
	checkConflict(t, get, get, false)
	checkConflict(t, get, put, true)
	checkConflict(t, twoKeys(api.Count, "a", "k"), put, false)
	checkConflict(t, twoKeys(api.Count, "a", "k"), twoKeys(api.Move, "b", "z"), true)
	checkConflict(t, twoKeys(api.Copy, "a", "b"), twoKeys(api.Copy, "a", "c"), false)
}

// universe is all texts of up to three of three letters: so few that a set of them is a number.
func universe() []string {
	out, level := []string{""}, []string{""}
	for range 3 {
		var next []string
		for _, s := range level {
			for _, letter := range []string{"\x00", "a", "\xff"} {
				next = append(next, s+letter)
			}
		}
		out, level = append(out, next...), next
	}
	return out
}

// sets are the keys of the universe that the command reads, and those that it writes, by the words of the chapter.
func sets(c api.Cmd, all []string) (read, write uint64) {
	for i, k := range all {
		bit := uint64(1) << i
		switch c.Kind {
		case 1:
			if k == c.Key {
				read |= bit
			}
		case 2, 3, 4, 5:
			if k == c.Key {
				write |= bit
			}
		case 6:
			if k == c.Key || k == c.Key2 {
				write |= bit
			}
		case 7:
			if k == c.Key {
				read |= bit
			}
			if k == c.Key2 {
				write |= bit
			}
		case 8:
			if strings.Compare(k, c.Key) >= 0 && strings.Compare(k, c.Key2) < 0 {
				read |= bit
			}
		}
	}
	return read, write
}

// TestP4_5EveryPairOfKinds holds Conflict against sets of keys: every pair of kinds, of short keys, a command with itself too.
func TestP4_5EveryPairOfKinds(t *testing.T) {
	all := universe()
	keys := all[:13] // those of up to two letters
	var commands []api.Cmd
	for kind := -1; kind <= 9; kind++ {
		for i, k := range keys {
			for j, l := range keys {
				if 6 <= kind && kind <= 8 || j == i*5%13 {
					commands = append(commands, twoKeys(kind, k, l))
				}
			}
		}
	}
	read, write := make([]uint64, len(commands)), make([]uint64, len(commands))
	for i, c := range commands {
		read[i], write[i] = sets(c, all)
	}
	for i, a := range commands {
		for j, b := range commands {
			want := write[i]&(read[j]|write[j])|write[j]&read[i] != 0
			if command.Conflict(a, b) != want {
				t.Fatalf("Conflict(%s, %s) = %v", short(a), short(b), !want)
			}
		}
	}
}

func TestP4_5EndsOfARange(t *testing.T) {
	for kind := 2; kind <= 5; kind++ {
		put := func(k string) api.Cmd { return api.Cmd{Kind: kind, Key: k} }
		count := twoKeys(api.Count, "b", "d")
		checkConflict(t, count, put("b"), true)
		checkConflict(t, count, put("b\x00"), true)
		checkConflict(t, count, put("c\xff\xff"), true)
		checkConflict(t, count, put("d"), false)
		checkConflict(t, count, put("d\x00"), false)
		checkConflict(t, count, put("a\xff\xff"), false)
		checkConflict(t, count, put(""), false)
		checkConflict(t, twoKeys(api.Count, "", "\x00"), put(""), true)
		checkConflict(t, twoKeys(api.Count, "b", "b\x00"), put("b"), true)
		checkConflict(t, twoKeys(api.Count, "b", "b\x00"), put("b\x00"), false)
		checkConflict(t, twoKeys(api.Count, "b\x00", "c"), put("b"), false)
		checkConflict(t, twoKeys(api.Count, "b", "b"), put("b"), false)
		checkConflict(t, twoKeys(api.Count, "d", "b"), put("c"), false)
		checkConflict(t, put("k"), put("k\x00"), false)
		checkConflict(t, put("k\x00"), put("k\x00\x00"), false)
		checkConflict(t, put("k\x00"), api.Cmd{Kind: api.Get, Key: "k"}, false)
		checkConflict(t, put(text(300)), put(text(300)), true)
		checkConflict(t, put(text(300)), put(text(300)+"\x00"), false)
		checkConflict(t, twoKeys(api.Count, text(300), text(300)+"\x00"), put(text(300)), true)
	}
}

func TestP4_5WithItself(t *testing.T) {
	for kind, want := range []bool{false, false, true, true, true, true, true, true, false} {
		for _, c := range []api.Cmd{plain(kind), full(kind), greatest(2, kind)} {
			checkConflict(t, c, c, want)
			checkConflict(t, c, api.Cmd{}, false)
			checkConflict(t, c, api.Cmd{Kind: 9, Key: c.Key, Key2: c.Key2}, false)
		}
	}
}

func TestP4_5KindAndKeysAlone(t *testing.T) {
	for i := range 9 {
		for j := range 9 {
			a, b := plain(i), plain(j)
			want := command.Conflict(a, b)
			checkConflict(t, dressed(a), b, want)
			checkConflict(t, a, dressed(b), want)
			checkConflict(t, dressed(a), dressed(b), want)
		}
	}
}
