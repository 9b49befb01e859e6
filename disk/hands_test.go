package disk_test

import (
	"bytes"
	"encoding/binary"
	"fmt"
	"math"
	"strings"
	"sync"
	"sync/atomic"
	"testing"

	"moot/api"
	"moot/disk"
)

// together runs the hands at the same time, and waits for all of them.
func together(hands ...func()) {
	var all sync.WaitGroup
	gate := make(chan int)
	for _, hand := range hands {
		all.Go(func() {
			<-gate
			hand()
		})
	}
	close(gate)
	all.Wait()
}

// block is what a hand appends at its turn: its length, the hand, the turn, and a filling that both tell.
func block(hand, turn int) []byte {
	b := binary.BigEndian.AppendUint16(nil, uint16(8+(hand*37+turn*101)%400))
	b = append(b, byte(hand))
	b = binary.BigEndian.AppendUint16(b, uint16(turn))
	for len(b) < int(binary.BigEndian.Uint16(b)) {
		b = append(b, byte(len(b)*(hand+1)+turn))
	}
	return b
}

// wholeBlocks tells how many turns of each hand stand in b, and how the mark lies; every block must be whole, and each hand's turns in order.
func wholeBlocks(b []byte, mark int) (turns [8]int, why string) {
	atBlock := mark == 0
	for at := 0; at < len(b); {
		if len(b)-at < 5 {
			return turns, fmt.Sprintf("%d bytes are left", len(b)-at)
		}
		hand, turn := int(b[at+2]), int(binary.BigEndian.Uint16(b[at+3:]))
		if hand >= len(turns) || turn != turns[hand] || !bytes.HasPrefix(b[at:], block(hand, turn)) {
			return turns, fmt.Sprintf("no whole block of hand %d, turn %d, at %d of %d", hand, turn, at, len(b))
		}
		turns[hand]++
		at += len(block(hand, turn))
		atBlock = atBlock || mark == at
	}
	if !atBlock {
		return turns, fmt.Sprintf("the mark %d is in a block", mark)
	}
	return turns, ""
}

// Appends stand together; a Look sees no half of one, and neither does a Sync.
func TestP9_10AppendsStandTogether(t *testing.T) {
	const turns = 120
	d := disk.New()
	var hands []func()
	for hand := range 8 {
		hands = append(hands, func() {
			for turn := range turns {
				if e := d.Append(block(hand, turn)); e != api.OK {
					t.Errorf("Append = %d", e)
				}
				if hand%2 == 0 {
					d.Sync()
				}
			}
		})
	}
	for range 3 {
		hands = append(hands, func() {
			var last []byte
			lastMark := 0
			for range 60 {
				b, mark := d.Look()
				if _, why := wholeBlocks(b, mark); why != "" {
					t.Errorf("a Look saw: %s", why)
				}
				if !bytes.HasPrefix(b, last) || mark < lastMark {
					t.Errorf("behind %d bytes, mark %d, a Look saw others: %d bytes, mark %d", len(last), lastMark, len(b), mark)
				}
				last, lastMark = b, mark
			}
		})
	}
	together(hands...)
	b, mark := d.Look()
	if seen, why := wholeBlocks(b, mark); why != "" || seen != [8]int{turns, turns, turns, turns, turns, turns, turns, turns} {
		t.Errorf("at the end there are %v: %s", seen, why)
	}
}

// All calls at the same time, of sizes that leave whole blocks of eight bytes: so a Look never sees another number of bytes, and what it saw synced stays.
func TestP9_10AllCalls(t *testing.T) {
	d := disk.New()
	const turns = 400
	var hands []func()
	for hand := range 4 {
		hands = append(hands, func() {
			for range turns {
				d.Append(bytes.Repeat([]byte{byte('a' + hand)}, 8))
			}
		})
	}
	hands = append(hands,
		func() {
			for range turns / 8 {
				d.Sync()
				d.Append([]byte("synced!!"))
			}
		},
		func() {
			for i := range turns {
				d.Crash(i % 5 * 8)
			}
		},
		func() {
			for range turns {
				b, _ := d.Look()
				if e := d.Cut(len(b)); e != api.OK && e != api.ErrPlace {
					t.Errorf("Cut = %d", e)
				}
			}
		},
		func() { // one that turns a bit of the first byte there and back
			d.Append(bytes.Repeat([]byte{'z'}, 8))
			for range turns {
				if e := d.Rot(0, 128); e != api.OK && e != api.ErrPlace {
					t.Errorf("Rot = %d", e)
				}
			}
		},
	)
	for range 2 {
		hands = append(hands, func() {
			var last []byte
			for range turns {
				b, mark := d.Look()
				checkEights(t, b, mark)
				if mark < len(last) || len(last) > 1 && !bytes.Equal(b[1:len(last)], last[1:]) {
					t.Errorf("of %d synced bytes some are lost or others, the mark is %d", len(last), mark)
				}
				last = b[:mark]
			}
		})
	}
	together(hands...)
	b, mark := d.Look()
	checkEights(t, b, mark)
}

// checkEights holds b to be whole eights of one letter each, or the text that Sync's hand wrote; but for a turned bit of the first byte.
func checkEights(t *testing.T, b []byte, mark int) {
	t.Helper()
	if len(b)%8 != 0 || mark%8 != 0 || mark > len(b) {
		t.Errorf("there are %d bytes, mark %d", len(b), mark)
		return
	}
	for at := 0; at < len(b); at += 8 {
		eight := bytes.Clone(b[at : at+8])
		if at == 0 {
			eight[0] &= 127
		}
		if string(eight) != "synced!!" && string(eight) != strings.Repeat(string(rune(eight[7]&127)), 8) {
			t.Errorf("%q stands at %d of %d", eight, at, len(b))
		}
	}
}

// No turn of a bit is lost, whoever turns others of the same byte.
func TestP9_10RotsAreAllDone(t *testing.T) {
	const places, turns = 4, 2001 // an odd number: all bits end as the other ones
	d := image(t, strings.Repeat("\x0f", places), 2)
	var hands []func()
	for bit := range 8 {
		hands = append(hands, func() {
			for turn := range places * turns {
				if e := d.Rot(turn%places, 1<<bit); e != api.OK {
					t.Errorf("Rot = %d", e)
				}
			}
		})
	}
	together(hands...)
	shows(t, d, strings.Repeat("\xf0", places), 2)
}

// Hands that fill a disk get just as many bytes onto it as they are told.
func TestP9_10FilledByMany(t *testing.T) {
	for _, free := range []int{0, 6, 7, 8, 700, 20001} {
		before := long(topDisk - free)
		d := image(t, before, 0)
		var took [8]int
		var hands []func()
		for hand := range took {
			hands = append(hands, func() {
				for range 1000 {
					if d.Append(bytes.Repeat([]byte{byte(hand)}, 7)) == api.OK {
						took[hand]++
					}
				}
			})
		}
		together(hands...)
		b, mark := d.Look()
		if len(b) != len(before)+free/7*7 || mark != 0 || string(b[:len(before)]) != before {
			t.Errorf("%d bytes, mark %d, stand on a disk with room for %d behind %d", len(b), mark, free, len(before))
		}
		for hand, count := range took {
			if n := bytes.Count(b[len(before):], []byte{byte(hand)}); n != count*7 {
				t.Errorf("hand %d appended %d bytes, and %d stand there", hand, count*7, n)
			}
		}
	}
}

// A crash that keeps all takes nothing of what is being appended.
func TestP9_10CrashesThatKeepAll(t *testing.T) {
	for range 20 {
		d := disk.New()
		appending := func() {
			for range 2000 {
				d.Append([]byte("ab"))
			}
		}
		crashing := func() {
			for range 4000 {
				d.Crash(math.MaxInt)
			}
		}
		together(appending, crashing, appending, crashing)
		shows(t, d, strings.Repeat("ab", 4000), 0)
	}
}

// Whoever alone appends finds all synced behind a Sync, though others cut what is not synced.
func TestP9_10CutsBesideSyncs(t *testing.T) {
	for range 20 {
		d := disk.New()
		var size atomic.Int64
		appending := func() {
			for range 2000 {
				d.Append([]byte("ab"))
				d.Sync()
				b, mark := d.Look()
				if mark != len(b) || mark < int(size.Load()) {
					t.Errorf("behind a Sync there are %d bytes, mark %d; there had been %d", len(b), mark, size.Load())
				}
				size.Store(int64(mark))
			}
		}
		cutting := func() {
			for range 8000 {
				d.Cut(int(size.Load()))
			}
		}
		together(appending, cutting, cutting)
	}
}

// The mark is never above the number of bytes, though they are crashed while others sync them.
func TestP9_10SyncsBesideCrashes(t *testing.T) {
	for range 20 {
		d := disk.New()
		appending := func() {
			for range 2000 {
				d.Append([]byte("ab"))
				d.Crash(0)
				if b, mark := d.Look(); mark > len(b) || mark%2 != 0 || len(b)%2 != 0 {
					t.Errorf("there are %d bytes, mark %d", len(b), mark)
				}
			}
		}
		syncing := func() {
			for range 4000 {
				d.Sync()
			}
		}
		together(appending, syncing, syncing)
	}
}

// A few steps a hand: what they answer, and what stands at the end, is what some order of all steps gives.
func TestP9_10AsIfInSomeOrder(t *testing.T) {
	d := dice(910)
	for range 6000 {
		m := model{bytes: d.text(d.below(12))}
		m.mark = d.below(len(m.bytes) + 1)
		on := image(t, m.bytes, m.mark)
		plans := make([][]step, 3)
		answers := make([][]answer, 3)
		var hands []func()
		for hand := range plans {
			for range 3 {
				plans[hand] = append(plans[hand], d.step(m))
			}
			hands = append(hands, func() {
				for _, s := range plans[hand] {
					answers[hand] = append(answers[hand], s.on(on))
				}
			})
		}
		together(hands...)
		b, mark := on.Look()
		if !someOrder(m, plans, answers, model{string(b), mark}) {
			t.Fatalf("from %q, %d: no order of %#v answers %#v and leaves %q, %d", m.bytes, m.mark, plans, answers, b, mark)
		}
	}
}

// someOrder: whether the steps that are left can be laid in an order that gives those answers and ends so.
func someOrder(m model, plans [][]step, answers [][]answer, end model) bool {
	left := false
	for hand, plan := range plans {
		if len(plan) == 0 {
			continue
		}
		left = true
		told, next := answers[hand], m
		if plan[0].onModel(&next) != told[0] {
			continue
		}
		plans[hand], answers[hand] = plan[1:], told[1:]
		found := someOrder(next, plans, answers, end)
		plans[hand], answers[hand] = plan, told
		if found {
			return true
		}
	}
	return !left && m == end
}
