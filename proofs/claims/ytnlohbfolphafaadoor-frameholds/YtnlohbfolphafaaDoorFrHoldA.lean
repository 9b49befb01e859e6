/- What FrameHolds' walk carries: the stream and the row of pieces. -/
import Derived.Test.YtnlohbfolphafaaDoorFrCutC
namespace Go.Proofs.YtnlohbfolphafaaDoor
open Go.RowKit Go.Wire1 Go.Crc2 Go.Frm

theorem Str.later {w w' : World} {b : Nat} {s : Sm} {pv : Value} {E0 : Nat} (h : Str w b s pv E0) (hb : Below w.heap.size w w') : Str w' b s pv E0 :=
  ⟨h.box.on hb, own_other h.own (fun k hk => hb.block k (h.own.lt k hk).2), h.far, h.six, h.low, h.nil_⟩
/-- The stream and the row of pieces, side by side. -/
structure HJ (w wr : World) (b : Nat) (val : Value) (vals : List Value) (W2 : Nat) (s : Sm) (pv : Value) : Prop where
  str : Str wr b s pv b
  pvl : ∀ k, pv.ownBlock = some k → W2 ≤ k
  row : wr.ownsRow (b + 1) 22 1 val vals.length vals
  rowb : ∀ k, val.ownBlock = some k → k < W2
  bel : Below b w wr
  sz : W2 ≤ wr.heap.size
theorem HJ.step {w wr w' : World} {b : Nat} {val : Value} {vals : List Value} {W2 : Nat} {s s' : Sm} {pv pv' : Value} (h : HJ w wr b val vals W2 s pv) (k : Stp wr w' b s' pv pv' b) : HJ w w' b val vals W2 s' pv' :=
  ⟨k.str, fun j hj => by
    rcases k.lat with e | e
    · exact h.pvl j (by rw [← e]; exact hj)
    · exact Nat.le_trans h.sz (e j hj),
   own_other h.row (fun j hj => k.tch.block j (h.row.lt j hj).2 (by have := (h.row.lt j hj).1; omega) (fun e => by have := h.pvl j e.symm; have := h.rowb j hj; omega)),
   h.rowb, h.bel.trans (k.below h.str), Nat.le_trans h.sz k.tch.size⟩
theorem HJ.drewN {w wr : World} {b : Nat} {val : Value} {vals : List Value} {W2 : Nat} {s : Sm} {pv : Value} (h : HJ w wr b val vals W2 s pv) (q : Nat) : HJ w (wr.drewN q) b val vals W2 s pv :=
  ⟨h.str.drewN q, h.pvl, h.row, h.rowb, below_drewN h.bel q, h.sz⟩
theorem liv_short {w : World} {b v pl : Nat} {h : List Int} {s : Sm} {pv : Value} {E0 : Nat} (S : Str w b s pv E0) (L : Liv v pl h s) : Frm.look v h = .short := by
  have F : Fd w w b v pl h [] pv E0 0 s pv := ⟨Nat.zero_le _, .inl (by simpa using L), ⟨S, Tch.refl _ _ _, Lat.refl _ _⟩⟩
  have hp := live_part L
  rcases fed_look F (.inl rfl) with ⟨h1, _⟩ | ⟨f, t, _, _, h3, _⟩ | ⟨e, _, h2, _⟩
  · simpa using h1
  · have := h3.part; omega
  · rw [h2] at hp; simp [brk] at hp
theorem fed_pos {w w' : World} {b v pl : Nat} {h l : List Int} {s s1 : Sm} {pv pv1 : Value} {E0 k : Nat} (S : Str w b s pv E0) (L : Liv v pl h s) (F : Fd w w' b v pl h l pv E0 k s1 pv1) (hk : k = l.length ∨ s1.part = 5 ∨ s1.part = 6) (hl : 0 < l.length) : 0 < k := by
  rcases Nat.eq_zero_or_pos k with h0 | h0
  · subst h0
    have hsh := liv_short S L
    have hc := F.came
    rw [List.take_zero, List.append_nil] at hc
    have h56 : s1.part = 5 ∨ s1.part = 6 := by omega
    rcases hc with c | c | ⟨e, c1, _, _, c4⟩
    · have := live_part c; omega
    · obtain ⟨hd, H, e⟩ := c.which
      have hb := hd_byt_len H (fun z hz => c.byt z (by rw [e]; exact List.mem_append_left _ (List.mem_append_left _ hz)))
      have ef : h = frm v s1.pay := by
        unfold frm body hdL
        rw [e]
        have : hd = [77, 84, (v : Int)] ++ enc s1.pay.length := hb.2.2.2
        rw [this]
      have := look_frm v s1.pay [] hb.2.2.1
      rw [List.append_nil, ← ef, hsh] at this
      cases this
    · rw [hsh] at c4; cases c4
  · exact h0
theorem pcs_at {ps : List (Nat × Nat)} {i t n : Nat} (hi : i < ps.length) (h : Pcs t (ps.drop i) n) : (ps.getD i (0, 0)).1 = t ∧ Pcs (t + (ps.getD i (0, 0)).2) (ps.drop (i + 1)) n := by
  rw [List.drop_eq_getElem_cons hi] at h
  have e : ps.getD i (0, 0) = ps[i] := by simp [List.getD, hi]
  rw [e]; exact h
theorem wai_len {v pl : Nat} {h : List Int} {s : Sm} (W : Wai v pl h s) : 8 ≤ s.held ∧ s.pay.length + 8 ≤ s.held ∧ s.held ≤ 1048586 ∧ s.pay.length ≤ 1048576 := by
  obtain ⟨hd, H, e⟩ := W.which
  have hb := hd_byt_len H (fun z hz => W.byt z (by rw [e]; exact List.mem_append_left _ (List.mem_append_left _ hz)))
  have := W.held
  rw [e] at this
  simp [fb_len] at this
  have := hb.1
  have := hb.2.1
  have := hb.2.2.1
  omega

end Go.Proofs.YtnlohbfolphafaaDoor
