package link_test

import (
	"bytes"
	"testing"

	"moot/api"
	"moot/link"
)

func TestP8_1Examples(t *testing.T) {
	for _, c := range [][4]int{{0, 3, 0, 3}, {0, 3, 3, 3}, {0, 1, 1, 3}, {0, 8, 1, 3}, {0, 3, 1, 0}, {0, 3, 1, 4}} {
		if link.New(c[0], c[1], c[2], c[3]) != nil {
			t.Errorf("New%v is an end", c)
		}
	}
}

// Each edge alone, the other arguments being as they may be.
func TestP8_1Edges(t *testing.T) {
	for _, c := range []struct {
		x    end
		want bool
	}{
		{end{0, 1, 1, 3}, false}, {end{0, 1, 0, 3}, false}, {end{0, 0, 0, 3}, false}, {end{0, -3, 1, 3}, false},
		{end{0, 2, 1, 3}, true}, {end{1, 2, 0, 3}, true},
		{end{0, 7, 6, 3}, true}, {end{6, 7, 0, 3}, true}, {end{0, 8, 1, 3}, false}, {end{7, 8, 0, 3}, false},
		{end{-1, 3, 1, 3}, false}, {end{0, 3, 1, 3}, true}, {end{2, 3, 1, 3}, true}, {end{3, 3, 1, 3}, false},
		{end{1, 3, -1, 3}, false}, {end{1, 3, 0, 3}, true}, {end{1, 3, 2, 3}, true}, {end{1, 3, 3, 3}, false},
		{end{0, 3, 0, 3}, false}, {end{1, 3, 1, 3}, false}, {end{2, 3, 2, 3}, false}, {end{-1, 3, -1, 3}, false}, {end{3, 3, 3, 3}, false},
		{end{0, 3, 1, -1}, false}, {end{0, 3, 1, 0}, false}, {end{0, 3, 1, 1}, true}, {end{0, 3, 1, 2}, true}, {end{0, 3, 1, 3}, true}, {end{0, 3, 1, 4}, false},
	} {
		if l := link.New(c.x.id, c.x.n, c.x.peer, c.x.mask); (l != nil) != c.want {
			t.Errorf("New(%+v) is an end: %v, want %v", c.x, l != nil, c.want)
		}
	}
}

func (x end) mayBe() bool {
	return x.n >= 2 && x.n <= 7 && x.id >= 0 && x.id <= x.n-1 && x.peer >= 0 && x.peer <= x.n-1 && x.id != x.peer &&
		(x.mask == 1 || x.mask == 2 || x.mask == 3)
}

func TestP8_1AllSmall(t *testing.T) {
	for n := -2; n <= 10; n++ {
		for id := -2; id <= 9; id++ {
			for peer := -2; peer <= 9; peer++ {
				for mask := -3; mask <= 8; mask++ {
					x := end{id, n, peer, mask}
					if l := link.New(id, n, peer, mask); (l != nil) != x.mayBe() {
						t.Errorf("New(%+v) is an end: %v", x, l != nil)
					}
				}
			}
		}
	}
}

func TestP8_1Wild(t *testing.T) {
	for _, w := range wild() {
		for _, x := range []end{{w, 3, 1, 3}, {0, w, 1, 3}, {0, 3, w, 3}, {0, 3, 1, w}, {w, w, w, w}, {w, 3, w, 3}, {0, w, w, 3}, {w - 1, w, 0, 3}} {
			if link.New(x.id, x.n, x.peer, x.mask) != nil {
				t.Errorf("New(%+v) is an end", x)
			}
		}
	}
}

func TestP8_1NewEndsGreet(t *testing.T) {
	eachPair(func(id, n, peer int) {
		for mask := 1; mask <= 3; mask++ {
			l := newLink(t, id, n, peer, mask)
			stands(t, l, api.LinkState{Peer: peer})
			refuses(t, l, api.Msg{Kind: 6, Inst: api.Inst{Num: 1}, Bal: api.Ballot{Round: 1}}, api.ErrLinkPhase)
			feeds(t, l, nil)
			feeds(t, l, helloOf(peer, n, mask))
			stands(t, l, api.LinkState{Peer: peer, Phase: settled, Version: chooseOf(mask, mask)})
		}
	})
}

// Two ends of the same arguments are two.
func TestP8_1EndsAreApart(t *testing.T) {
	a, b := newLink(t, 0, 3, 1, 3), newLink(t, 0, 3, 1, 3)
	feeds(t, a, frameH(1, 1))
	stands(t, b, api.LinkState{Peer: 1})
	feeds(t, b, []byte{0})
	stands(t, a, api.LinkState{Peer: 1, Phase: settled, Version: 1})
	feeds(t, a, frameC(), accepted)
}

func TestP8_2Examples(t *testing.T) {
	for _, c := range [][3]int{{3, 3, 2}, {3, 1, 1}, {2, 1, 0}, {0, 3, 0}, {7, 6, 2}, {-1, -2, 2}, {-2, -3, 0}, {-3, 1, 1}, {-4, 3, 0}, {4, 4, 0}, {5, 9, 1}} {
		for _, swapped := range []bool{false, true} {
			a, b := c[0], c[1]
			if swapped {
				a, b = b, a
			}
			if v := link.Choose(a, b); v != c[2] {
				t.Errorf("Choose(%d, %d) = %d, want %d", a, b, v, c[2])
			}
		}
	}
}

func TestP8_2AllPairs(t *testing.T) {
	masks := wild()
	for m := -17; m <= 17; m++ {
		masks = append(masks, m)
	}
	for _, a := range masks {
		for _, b := range masks {
			if v, want := link.Choose(a, b), chooseOf(a, b); v != want {
				t.Errorf("Choose(%d, %d) = %d, want %d", a, b, v, want)
			}
		}
	}
}

// Bits above bit 1 change nothing.
func TestP8_2HighBits(t *testing.T) {
	for bit := 2; bit < 64; bit++ {
		high := 1 << bit
		for a := range 4 {
			for b := range 4 {
				for _, c := range [][2]int{{a + high, b}, {a, b + high}, {a + high, b + high}, {a - high, b - high}, {a | high, -1&^3 | b}} {
					if v := link.Choose(c[0], c[1]); v != chooseOf(a, b) {
						t.Errorf("Choose(%d, %d) = %d, want %d", c[0], c[1], v, chooseOf(a, b))
					}
				}
			}
		}
	}
}

func greets(t *testing.T, l *link.Link, want []byte) {
	t.Helper()
	before := l.State()
	for range 2 {
		if b := l.Hello(); !bytes.Equal(b, want) {
			t.Errorf("Hello() = %x, want %x", b, want)
		}
	}
	stands(t, l, before)
}

func TestP8_3Examples(t *testing.T) {
	b := newLink(t, 0, 3, 1, 3).Hello()
	if len(b) != 11 || !bytes.Equal(b[:7], raw("4D 54 00 03 00 03 03")) || !bytes.Equal(b[7:], librarySum(b[:7])) {
		t.Errorf("Hello() = %x", b)
	}
	greets(t, newLink(t, 6, 7, 2, 1), join(raw("4D 54 00 03 06 07 01"), librarySum(raw("4D 54 00 03 06 07 01"))))
	greets(t, newLink(t, 1, 2, 0, 2), join(raw("4D 54 00 03 01 02 02"), librarySum(raw("4D 54 00 03 01 02 02"))))
}

func TestP8_3AllEnds(t *testing.T) {
	eachPair(func(id, n, peer int) {
		for mask := 1; mask <= 3; mask++ {
			greets(t, newLink(t, id, n, peer, mask), helloOf(id, n, mask))
		}
	})
}

// The hello is asked for behind every byte, up to the end's closing and behind it; the mask stays what it was, whatever was settled.
func TestP8_3EveryPhase(t *testing.T) {
	for _, c := range [][]byte{
		join(frameH(1, 1), frameC(), frameC()[:5], []byte{0, 0, 0, 0, 0, 0, 0, 0}),
		join(frameH(1, 3), frameW(), sealOf(2, nil), frameW()),
		join(frameH(2, 3), frameW()),
		{0, 1, 2},
	} {
		l, asked := newLink(t, 0, 3, 1, 3), newLink(t, 0, 3, 1, 3)
		for i := range c {
			greets(t, asked, frameH(0, 3))
			feeds(t, asked, c[i:i+1], l.Feed(c[i:i+1])...)
			stands(t, asked, l.State())
		}
		greets(t, asked, frameH(0, 3))
		if asked.State().Phase != closed {
			t.Errorf("%x leaves the end open", c)
		}
	}
}
