package table

import (
	"maps"
	"slices"
	"testing"

	"moot/api"
)

// touching is a command, the single keys that it touches, and whether it touches a range.
type touching struct {
	c    api.Cmd
	keys []string
	wide bool
}

func touchings() []touching {
	return []touching{
		{api.Cmd{Kind: api.Put, Key: "k"}, []string{"k"}, false},
		{api.Cmd{Kind: api.Get, Key: "k"}, []string{"k"}, false},
		{api.Cmd{Kind: api.Get, Key: "j"}, []string{"j"}, false},
		{api.Cmd{Kind: api.Count, Key: "a", Key2: "z"}, nil, true},
		{api.Cmd{Kind: api.Move, Key: "j", Key2: "k"}, []string{"j", "k"}, false},
		{api.Cmd{Kind: api.Copy, Key: "k", Key2: "l"}, []string{"k", "l"}, false},
		{api.Cmd{Kind: api.Count, Key: "k", Key2: "k\x00"}, []string{"k"}, false},
		{api.Cmd{}, nil, false},
	}
}

// with is the record that accepts a command at an instance in a round.
func with(c api.Cmd, x api.Inst, round int) api.Record {
	r := api.Record{Kind: api.RecAccepted, Inst: x, Bal: api.Ballot{Round: round}, Cmd: c, Seq: 1, Deps: make([]int, 3)}
	if c.Kind == api.Noop {
		r.Seq = 0
	}
	return r
}

// wanted is the index of the instances with their commands.
func wanted(now map[api.Inst]touching) index {
	want := index{keys: map[string]group{}, wide: group{}}
	for x, c := range now {
		if c.wide {
			want.wide[x] = struct{}{}
		}
		for _, key := range c.keys {
			if want.keys[key] == nil {
				want.keys[key] = group{}
			}
			want.keys[key][x] = struct{}{}
		}
	}
	return want
}

// The index has what the slots' commands touch now and nothing that has gone: neither an instance nor an empty key.
func TestIndexHasNothingThatHasGone(t *testing.T) {
	b, all, now := New(3), touchings(), map[api.Inst]touching{}
	for round := range 1000 {
		x, c := api.Inst{Row: round % 2, Num: 1 + round%3}, all[round*5/6%len(all)]
		if e := b.Apply(with(c.c, x, 1+round)); e != api.OK {
			t.Fatalf("Apply at %v = %d", x, e)
		}
		now[x] = c
		want := wanted(now)
		if !maps.Equal(b.index.wide, want.wide) || !maps.EqualFunc(b.index.keys, want.keys, maps.Equal[group, group]) {
			t.Fatalf("behind %+v at %v the index is %v, want %v", c.c, x, b.index, want)
		}
	}
}

// Of the single keys near finds those alone that the command touches, a range's first one among them and its end not.
func TestNear(t *testing.T) {
	b := New(3)
	place := func(num int, c api.Cmd) {
		if e := b.Apply(with(c, api.Inst{Num: num}, 1)); e != api.OK {
			t.Fatalf("Apply of %+v = %d", c, e)
		}
	}
	for i, key := range []string{"a", "b", "b\x00", "c", "d"} {
		place(i+1, api.Cmd{Kind: api.Put, Key: key})
	}
	place(9, api.Cmd{Kind: api.Count, Key: "x", Key2: "z"})
	for _, c := range []struct {
		c    api.Cmd
		want []int
	}{
		{api.Cmd{Kind: api.Get, Key: "b"}, []int{2, 9}},
		{api.Cmd{Kind: api.Get, Key: "e"}, []int{9}},
		{api.Cmd{Kind: api.Move, Key: "d", Key2: "a"}, []int{1, 5, 9}},
		{api.Cmd{Kind: api.Count, Key: "b", Key2: "d"}, []int{2, 3, 4, 9}},
		{api.Cmd{Kind: api.Count, Key: "b", Key2: "b\x00"}, []int{2, 9}},
	} {
		var got []int
		for _, x := range b.index.near(c.c) {
			got = append(got, x.Num)
		}
		slices.Sort(got)
		if !slices.Equal(got, c.want) {
			t.Errorf("near(%+v) = %v, want %v", c.c, got, c.want)
		}
	}
}
