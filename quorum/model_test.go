package quorum_test

import "moot/api"

// The chapter once more, by its words: for each replica in turn the first vote of it that is fit is looked for.

func wordsSound(n int, a api.Attr) bool {
	if a.Seq < 0 || a.Seq > topSeq || len(a.Deps) != n {
		return false
	}
	for _, x := range a.Deps {
		if x < 0 || x > topNum {
			return false
		}
	}
	return true
}

func attrOf(v api.Vote) api.Attr { return api.Attr{Seq: v.Seq, Deps: v.Deps} }

func wordsFirst(id int, votes []api.Vote, fit func(api.Vote) bool) (api.Vote, bool) {
	for _, v := range votes {
		if v.From == id && fit(v) {
			return v, true
		}
	}
	return api.Vote{}, false
}

func wordsCan(n, id int) bool { return (n == 3 || n == 5 || n == 7) && id > -1 && id < n }

// wordsReplies are those that count in Fast and Slow.
func wordsReplies(n, self int, votes []api.Vote) []api.Attr {
	var out []api.Attr
	for id := range n {
		v, ok := wordsFirst(id, votes, func(v api.Vote) bool { return wordsSound(n, attrOf(v)) })
		if ok && id != self {
			out = append(out, attrOf(v))
		}
	}
	return out
}

func wordsUnion(own api.Attr, all []api.Attr) api.Attr {
	out := at(own.Seq, own.Deps...)
	out.Deps = append([]int{}, own.Deps...)
	for _, a := range all {
		if a.Seq > out.Seq {
			out.Seq = a.Seq
		}
		for i, x := range a.Deps {
			if x > out.Deps[i] {
				out.Deps[i] = x
			}
		}
	}
	return out
}

func wordsFast(n, self int, own api.Attr, votes []api.Vote) (int, api.Attr) {
	if !wordsCan(n, self) || !wordsSound(n, own) {
		return 0, api.Attr{}
	}
	need := map[int]int{3: 1, 5: 3, 7: 5}[n]
	least := map[int]int{3: 1, 5: 2, 7: 3}[n]
	replies, unequal := wordsReplies(n, self, votes), 0
	for _, a := range replies {
		if !sameAttr(a, own) {
			unequal++
		}
	}
	if len(replies)-unequal >= need {
		return 1, own
	}
	if len(replies) >= least && unequal > 1 {
		return 2, wordsUnion(own, replies)
	}
	return 0, api.Attr{}
}

func wordsSlow(n, self int, own api.Attr, votes []api.Vote) (int, api.Attr) {
	if !wordsCan(n, self) || !wordsSound(n, own) {
		return 0, api.Attr{}
	}
	replies := wordsReplies(n, self, votes)
	if len(replies) < map[int]int{3: 1, 5: 2, 7: 3}[n] {
		return 0, api.Attr{}
	}
	return 2, wordsUnion(own, replies)
}

func wordsFit(n int, v api.Vote) bool {
	switch v.State {
	case 0:
		return true
	case 1, 2:
		return wordsSound(n, attrOf(v))
	}
	return false
}

func wordsAbove(a, b api.Ballot) bool {
	return a.Round > b.Round || a.Round == b.Round && a.Who > b.Who
}

func wordsPlan(n, row int, votes []api.Vote) api.Plan {
	if !wordsCan(n, row) {
		return api.Plan{}
	}
	var count, ownerCounts, same int
	var h []api.Vote // by rising From
	for id := range n {
		v, ok := wordsFirst(id, votes, func(v api.Vote) bool { return wordsFit(n, v) })
		if !ok {
			continue
		}
		count++
		if id == row {
			ownerCounts++
		}
		if v.State == 0 || len(h) > 0 && wordsAbove(h[0].VBal, v.VBal) {
			continue
		}
		if len(h) > 0 && wordsAbove(v.VBal, h[0].VBal) {
			h = nil
		}
		h = append(h, v)
	}
	if count*2 <= n {
		return api.Plan{}
	}
	if len(h) == 0 {
		return api.Plan{Kind: 1}
	}
	firstSame := -1
	for i := len(h) - 1; i >= 0; i-- {
		if h[i].Same {
			same, firstSame = same+1, i
		}
	}
	for _, v := range h {
		if v.State == 2 {
			return api.Plan{Kind: 2, Cmd: v.Cmd, Seq: v.Seq, Deps: v.Deps}
		}
	}
	if h[0].VBal.Round == 0 && h[0].VBal.Who == row && ownerCounts == 0 && same >= n/2 {
		return api.Plan{Kind: 2, Cmd: h[firstSame].Cmd, Seq: h[firstSame].Seq, Deps: h[firstSame].Deps}
	}
	return api.Plan{Kind: 3, Cmd: h[0].Cmd}
}
