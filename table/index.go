package table

import (
	"maps"
	"slices"

	"moot/api"
	"moot/command"
)

// group is a set of instances.
type group map[api.Inst]struct{}

// index finds instances by the keys that their commands touch.
type index struct {
	keys map[string]group // by a key: those whose commands touch it as a single one
	wide group            // those whose commands touch a range of keys
}

func newIndex() index { return index{keys: map[string]group{}, wide: group{}} }

// add takes in what a slot's command touches.
func (x index) add(s api.Slot) {
	for _, touch := range command.Touches(s.Cmd) {
		if !isSingle(touch) {
			x.wide[s.Inst] = struct{}{}
			continue
		}
		if x.keys[touch.Key] == nil {
			x.keys[touch.Key] = group{}
		}
		x.keys[touch.Key][s.Inst] = struct{}{}
	}
}

// remove takes out again what add took in.
func (x index) remove(s api.Slot) {
	for _, touch := range command.Touches(s.Cmd) {
		if !isSingle(touch) {
			delete(x.wide, s.Inst)
			continue
		}
		delete(x.keys[touch.Key], s.Inst)
		if len(x.keys[touch.Key]) == 0 {
			delete(x.keys, touch.Key)
		}
	}
}

// near lists all instances whose commands may touch a key in common with c, in no order, some more than once.
func (x index) near(c api.Cmd) []api.Inst {
	out := slices.Collect(maps.Keys(x.wide))
	for _, touch := range command.Touches(c) {
		if isSingle(touch) {
			out = slices.AppendSeq(out, maps.Keys(x.keys[touch.Key]))
			continue
		}
		for key, those := range x.keys {
			if touch.Key <= key && key < touch.End {
				out = slices.AppendSeq(out, maps.Keys(those))
			}
		}
	}
	return out
}

// isSingle tells whether just one key lies in a range.
func isSingle(touch api.Touch) bool { return touch.End == touch.Key+"\x00" }
