package table_test

import (
	"testing"

	"moot/api"
)

func TestP11_6Known(t *testing.T) {
	b := fresh(t, 3, sameVoted(in(0, 4), p, 1, vec(1, 2, 0)), promise(in(0, 9), bal(1, 0)), committed(in(1, 6), q, 1, vec(0, 3, 0)), noopAt(in(2, 2), bal(0, 2), 3))
	for row, nums := range [][]int{{1, 4, 9}, {1, 2, 3, 6}, {2}} {
		for num := -1; num <= 11; num++ {
			want := false
			for _, k := range nums {
				want = want || k == num
			}
			knownIs(t, b, in(row, num), want)
		}
	}
	for _, y := range noInsts() {
		knownIs(t, b, y, false)
	}
}

// Deps of a slot of any State count, all rows of them, up to the last one that may be.
func TestP11_6EveryState(t *testing.T) {
	for _, s := range starts() {
		b := fresh(t, 3, s.records...)
		for row := range 3 {
			for num := 1; num <= 6; num++ {
				held := s.slot.Seq > 0 && num <= row+1
				knownIs(t, b, in(row, num), held || in(row, num) == s.slot.Inst)
			}
		}
	}
	for n := 1; n <= 7; n++ {
		b := fresh(t, n, committed(in(0, 1), p, 1, filled(n, topNum)))
		for row := range n {
			knownIs(t, b, in(row, 1), true)
			knownIs(t, b, in(row, topNum), true)
			knownIs(t, b, in(row, topNum+1), false)
			knownIs(t, b, in(row, 0), false)
			knownIs(t, b, in(row, -1), false)
		}
		for _, row := range append(wild(), -1, n, 7, 8) {
			knownIs(t, b, in(row, 1), false)
		}
	}
}

// What only a vote held that gave way is not known any more.
func TestP11_6DepsThatGaveWay(t *testing.T) {
	b := fresh(t, 3, sameVoted(x, p, 1, vec(0, 0, 8)))
	knownIs(t, b, in(2, 8), true)
	applies(t, b, promise(x, bal(1, 0)), api.OK)
	knownIs(t, b, in(2, 8), true)
	applies(t, b, voted(x, bal(1, 0), p, 1, vec(0, 0, 5)), api.OK)
	knownIs(t, b, in(2, 6), false)
	knownIs(t, b, in(2, 5), true)
	applies(t, b, accepted(in(0, 1), bal(1, 0), q, 1, vec(0, 0, 7)), api.OK)
	knownIs(t, b, in(2, 7), true)
	applies(t, b, noopAt(in(0, 1), bal(-1, 0), 3), api.OK)
	knownIs(t, b, in(2, 7), false)
	applies(t, b, committed(x, p, 1, vec(0, 0, 1)), api.OK)
	knownIs(t, b, in(2, 2), false)
	knownIs(t, b, in(2, 1), true)
	knownIs(t, b, x, true)
	knownIs(t, b, in(0, 1), true)
}
