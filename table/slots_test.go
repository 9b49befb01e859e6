package table_test

import (
	"cmp"
	"slices"
	"testing"

	"moot/api"
)

// noInsts are instances that may not be, among 3 replicas.
func noInsts() []api.Inst {
	var out []api.Inst
	for _, row := range append(wild(), -1, 3, 4, 7, 8) {
		out = append(out, in(row, 1), in(row, 5))
	}
	for _, num := range append(wild(), 0, -1, -5, topNum+1) {
		if num < 1 || num > topNum {
			out = append(out, in(0, num), in(1, num))
		}
	}
	return append(out, in(-1, -1), in(3, 0))
}

func TestP11_3Slot(t *testing.T) {
	b := fresh(t, 3, sameVoted(in(0, 1), p, 1, vec(0, 0, 0)), promise(in(0, 3), bal(1, 0)), accepted(x, bal(1, 2), q, 7, vec(1, 2, 3)), committed(in(2, topNum), get("j"), 2, vec(0, 9, 0)))
	slotIs(t, b, api.Slot{Inst: in(0, 1), State: 1, Same: true, Cmd: p, Seq: 1, Deps: vec(0, 0, 0)})
	slotIs(t, b, api.Slot{Inst: in(0, 3), Bal: bal(1, 0)})
	slotIs(t, b, api.Slot{Inst: x, Bal: bal(1, 2), VBal: bal(1, 2), State: 2, Cmd: q, Seq: 7, Deps: vec(1, 2, 3)})
	slotIs(t, b, api.Slot{Inst: in(2, topNum), Bal: bal(0, 2), State: 3, Cmd: get("j"), Seq: 2, Deps: vec(0, 9, 0)})
	for _, y := range append(noInsts(), in(0, 2), in(0, 4), in(1, 1), in(1, 4), in(1, 6), in(2, 1), in(2, 9), in(2, topNum-1)) {
		noSlot(t, b, y)
	}
	for _, s := range starts() {
		noSlot(t, fresh(t, 3, s.records...), in(x.Row, x.Num+1))
		noSlot(t, fresh(t, 3, s.records...), in(x.Num, x.Row))
	}
}

// spread are instances in their order, such that row and number, and numbers as texts, are ordered otherwise.
func spread() []api.Inst {
	return []api.Inst{in(0, 2), in(0, 9), in(0, 10), in(0, 100), in(0, topNum), in(1, 1), in(1, 3), in(1, 11), in(2, 1), in(2, 255), in(2, 256), in(6, 1), in(6, topNum)}
}

func TestP11_3OrderOfSlots(t *testing.T) {
	d := dice(113)
	for range 50 {
		insts := spread()
		var want []api.Slot
		for _, y := range insts {
			want = append(want, api.Slot{Inst: y, Bal: bal(1, 3)})
		}
		for i := range insts {
			j := i + d.below(len(insts)-i)
			insts[i], insts[j] = insts[j], insts[i]
		}
		b := fresh(t, 7)
		for _, y := range insts {
			applies(t, b, promise(y, bal(1, 3)), api.OK)
		}
		for range 5 {
			slotsAre(t, b, want...)
		}
	}
}

// Slots has each slot once, just as Slot tells it.
func TestP11_3SlotsAreSlots(t *testing.T) {
	d := dice(114)
	for range 100 {
		n := 1 + d.below(7)
		b := fresh(t, n)
		for range 60 {
			b.Apply(d.record(n))
		}
		slots := b.Slots()
		for _, s := range slots {
			slotIs(t, b, s)
		}
		rising := func(a, b api.Slot) int {
			return cmp.Or(cmp.Compare(a.Inst.Row, b.Inst.Row), cmp.Compare(a.Inst.Num, b.Inst.Num))
		}
		if !slices.IsSortedFunc(slots, rising) || len(slices.CompactFunc(slots, func(a, b api.Slot) bool { return a.Inst == b.Inst })) != len(b.Slots()) {
			t.Errorf("not in order, or doubled: %+v", b.Slots())
		}
	}
}

func TestP11_4Top(t *testing.T) {
	b := fresh(t, 5, sameVoted(in(0, 4), p, 1, filled(5, 9)), committed(in(0, 2), q, 1, filled(5, 9)), promise(in(1, 7), bal(1, 0)), noopAt(in(3, 1), bal(1, 1), 5))
	for row, want := range []int{4, 7, 0, 1, 0} {
		topIs(t, b, row, want) // what Deps hold doesn't count
	}
	for _, row := range append(wild(), -1, 5, 6, 7, 8) {
		topIs(t, b, row, 0)
	}
	applies(t, b, promise(in(0, 5), bal(1, 0)), api.OK)
	topIs(t, b, 0, 5)
	applies(t, b, promise(in(1, 6), bal(1, 0)), api.OK)
	topIs(t, b, 1, 7)
	applies(t, b, committed(in(4, topNum), p, 1, filled(5, 0)), api.OK)
	topIs(t, b, 4, topNum)
	applies(t, b, promise(in(2, 8), bal(0, 2)), api.ErrRecBallot)
	topIs(t, b, 2, 0)
}

// A slot of whatever State counts for its row, and for no other one.
func TestP11_4EveryState(t *testing.T) {
	for _, s := range starts() {
		b := fresh(t, 3, s.records...)
		topIs(t, b, 0, 0)
		topIs(t, b, 1, s.slot.Inst.Num)
		topIs(t, b, 2, 0)
		topIs(t, b, 5, 0)
	}
	b := fresh(t, 7)
	for _, y := range spread() {
		applies(t, b, promise(y, bal(1, 0)), api.OK)
	}
	for row, want := range []int{topNum, 11, 256, 0, 0, 0, topNum, 0} {
		topIs(t, b, row, want)
	}
}
