package table_test

import (
	"testing"

	"moot/api"
	"moot/table"
)

func TestP11_1Sizes(t *testing.T) {
	for _, n := range append(wild(), -1, 0, 8, 9, -7) {
		if table.New(n) != nil {
			t.Errorf("New(%d) is a table", n)
		}
	}
	for n := 1; n <= 7; n++ {
		if table.New(n) == nil {
			t.Errorf("New(%d) is nil", n)
		}
	}
}

func TestP11_1Empty(t *testing.T) {
	for n := 1; n <= 7; n++ {
		b := fresh(t, n)
		slotsAre(t, b)
		logIs(t, b)
		for _, row := range append(wild(), -1, 0, 1, 6, 7, 8) {
			topIs(t, b, row, 0)
			for _, num := range []int{-1, 0, 1, topNum, topNum + 1} {
				knownIs(t, b, in(row, num), false)
				noSlot(t, b, in(row, num))
			}
		}
		attrsAre(t, b, put("k", "1"), in(0, 1), 1, filled(n, 0)...)
		attrsAre(t, b, api.Cmd{}, in(0, 1), 0, filled(n, 0)...)
	}
}

// n bounds the rows, the ballots and the vectors that a table takes.
func TestP11_1RowsOfTheTable(t *testing.T) {
	for n := 1; n <= 7; n++ {
		b := fresh(t, n)
		applies(t, b, promise(in(n-1, 1), bal(1, n-1)), api.OK)
		applies(t, b, promise(in(n, 1), bal(1, 0)), api.ErrRecInst)
		applies(t, b, promise(in(n-1, 2), bal(1, n)), api.ErrRecBallot)
		applies(t, b, committed(in(0, 1), put("k", "1"), 1, filled(n, 0)), api.OK)
		applies(t, b, committed(in(0, 2), put("k", "1"), 1, filled(n+1, 0)), api.ErrRecAttr)
		applies(t, b, committed(in(0, 2), put("k", "1"), 1, filled(n-1, 0)), api.ErrRecAttr)
	}
}

// The chapter's examples, one behind the other.
func TestExamples(t *testing.T) {
	p, q, g := put("k", "1"), put("k", "2"), get("j")
	b := fresh(t, 3)
	attrsAre(t, b, p, in(0, 1), 1, 0, 0, 0)
	knownIs(t, b, in(0, 1), false)
	topIs(t, b, 0, 0)
	applies(t, b, sameVoted(in(0, 1), p, 1, vec(0, 0, 0)), api.OK)
	applies(t, b, sameVoted(in(0, 1), p, 1, vec(0, 0, 0)), api.ErrTableVoted)
	applies(t, b, promise(in(0, 1), bal(0, 0)), api.ErrRecBallot)
	applies(t, b, promise(in(2, 1), bal(0, 2)), api.ErrRecBallot)
	attrsAre(t, b, q, in(1, 1), 2, 1, 0, 0)
	attrsAre(t, b, g, in(1, 1), 1, 0, 0, 0)
	attrsAre(t, b, q, in(0, 1), 1, 0, 0, 0)
	applies(t, b, voted(in(1, 3), bal(0, 1), q, 2, vec(1, 2, 0)), api.OK)
	knownIs(t, b, in(1, 1), true)
	knownIs(t, b, in(1, 4), false)
	topIs(t, b, 1, 3)
	applies(t, b, promise(in(0, 1), bal(2, 1)), api.OK)
	applies(t, b, promise(in(0, 1), bal(2, 1)), api.ErrTableOld)
	applies(t, b, accepted(in(0, 1), bal(1, 2), p, 1, vec(0, 0, 0)), api.ErrTableOld)
	applies(t, b, accepted(in(0, 1), bal(2, 1), p, 4, vec(0, 3, 0)), api.OK)
	attrsAre(t, b, q, in(2, 1), 5, 1, 3, 0)
	applies(t, b, promise(in(2, 7), bal(1, 0)), api.OK)
	topIs(t, b, 2, 7)
	slotIs(t, b, api.Slot{Inst: in(2, 7), Bal: bal(1, 0)})
	applies(t, b, committed(in(1, 3), q, 2, vec(1, 2, 0)), api.OK)
	stays(t, b, committed(in(1, 3), q, 2, vec(1, 2, 0)))
	applies(t, b, committed(in(1, 3), q, 3, vec(1, 2, 0)), api.ErrTableClash)
	applies(t, b, promise(in(1, 3), bal(9, 0)), api.ErrTableDone)
	applies(t, b, api.Record{Kind: 1, Id: 1, N: 3}, api.ErrTableHead)
	logIs(t, b, accepted(in(0, 1), bal(2, 1), p, 4, vec(0, 3, 0)), committed(in(1, 3), q, 2, vec(1, 2, 0)), promise(in(2, 7), bal(1, 0)))
}
