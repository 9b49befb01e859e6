/- The statements' pair of disks: what it is in memory, begun, looks, lay. -/
import Derived.Test.YtahpnfbjpdnapaaDkStill
namespace Go.Proofs.Ytahpnfbjpdnapaa
open Go.RowKit Go.Wire1 Go.MuLone

/-- A pair of disks with its room; ro: which part a block plays (o + 1 the pair, o + 2 the program's disk, o + 3 the document's, o + 4 the room). -/
structure Par (w : World) (ro : Nat → Nat) (o pb b rb : Nat) (pv sv tv rv : Value) (S T R : List Int) (E0 : Nat) : Prop where
  box : Blk w pb [.pointer (some ⟨b, 0, none⟩), .pointer (some ⟨rb, 0, none⟩), rv]
  d : Dsk 0 w b pv (S ++ T) S.length E0
  r : RDk w rb sv tv S T E0
  room : w.ownsRow E0 5 1 rv R.length (R.map (Value.int .u8))
  byt : Byt R
  low : E0 ≤ pb
  rtop : R.length ≤ 140737488351235
  q1 : ro pb = o + 1
  q2 : ∀ k, (k = b ∨ pv.ownBlock = some k) → ro k = o + 2
  q3 : ∀ k, (k = rb ∨ sv.ownBlock = some k ∨ tv.ownBlock = some k) → ro k = o + 3
  q4 : ∀ k, rv.ownBlock = some k → ro k = o + 4
section
variable {w w' : World} {ro : Nat → Nat} {o pb b rb : Nat} {pv sv tv rv : Value} {S T R : List Int} {E0 : Nat}
/-- What plays no part in the pair may turn. -/
theorem Par.frame (h : Par w ro o pb b rb pv sv tv rv S T R E0) (k : ∀ j, j < w.heap.size → o + 1 ≤ ro j → ro j ≤ o + 4 → w'.heap[j]? = w.heap[j]?) : Par w' ro o pb b rb pv sv tv rv S T R E0 := by
  have kb : ∀ j, j < w.heap.size → ro j = o + 2 → w'.heap[j]? = w.heap[j]? := fun j hj e => k j hj (by omega) (by omega)
  have kr : ∀ j, j < w.heap.size → ro j = o + 3 → w'.heap[j]? = w.heap[j]? := fun j hj e => k j hj (by omega) (by omega)
  exact ⟨h.box.of_block (k pb h.box.lt (by have := h.q1; omega) (by have := h.q1; omega)), h.d.on (kb b h.d.box.lt (h.q2 b (.inl rfl))) (fun j hj => kb j (h.d.own.lt j hj).2 (h.q2 j (.inr hj))),
    h.r.on (kr rb h.r.box.lt (h.q3 rb (.inl rfl))) (fun j hj => kr j (h.r.so.lt j hj).2 (h.q3 j (.inr (.inl hj)))) (fun j hj => kr j (h.r.to.lt j hj).2 (h.q3 j (.inr (.inr hj)))),
    own_other h.room (fun j hj => k j (h.room.lt j hj).2 (by have := h.q4 j hj; omega) (by have := h.q4 j hj; omega)), h.byt, h.low, h.rtop, h.q1, h.q2, h.q3, h.q4⟩
theorem Par.later (h : Par w ro o pb b rb pv sv tv rv S T R E0) (hb : Below w.heap.size w w') : Par w' ro o pb b rb pv sv tv rv S T R E0 := h.frame (fun j hj _ _ => hb.block j hj)
theorem Par.rerole {ro' : Nat → Nat} (h : Par w ro o pb b rb pv sv tv rv S T R E0) (e : ∀ k, k < w.heap.size → ro' k = ro k) : Par w ro' o pb b rb pv sv tv rv S T R E0 :=
  ⟨h.box, h.d, h.r, h.room, h.byt, h.low, h.rtop, (e pb h.box.lt).trans h.q1, fun k hk => (e k (by
    rcases hk with rfl | hk
    · exact h.d.box.lt
    · exact (h.d.own.lt k hk).2)).trans (h.q2 k hk), fun k hk => (e k (by
    rcases hk with rfl | hk | hk
    · exact h.r.box.lt
    · exact (h.r.so.lt k hk).2
    · exact (h.r.to.lt k hk).2)).trans (h.q3 k hk), fun k hk => (e k (h.room.lt k hk).2).trans (h.q4 k hk)⟩
end

set_option maxHeartbeats 4000000 in
set_option maxRecDepth 100000 in
theorem begun_any (w : World) (E0 : Nat) (hE : E0 ≤ w.heap.size) (ro : Nat → Nat) (o : Nat) :
    Calls Try.prog 14 #[] w fun r w' => ∃ pb b rb ro', r = .returned (.pointer (some ⟨pb, 0, none⟩)) ∧ w.heap.size ≤ pb ∧ Below w.heap.size w w' ∧ (∀ k, k < w.heap.size → ro' k = ro k) ∧ Par w' ro' o pb b rb (.slice none 0 0) (.slice none 0 0) (.slice none 0 0) (.slice none 0 0) [] [] [] E0 := by
  go_enter Try.func14, Try.ntmps14
  go_wp2_with fail
  refine (new_any _ E0 hE).mono ?_
  rintro e w1 ⟨rfl, d1, hb1, hz1⟩
  have D1 := hide d1
  have B1 := hide hb1
  have Z1 := hide hz1
  clear d1 hb1 hz1
  go_wp2_with fail
  refine (rnew_any _ E0 (by have := Z1.out; omega)).mono ?_
  rintro e w2 ⟨rfl, r2, hb2, hz2⟩
  have hA : Below w2.heap.size w2 (w2.alloc (.cells #[.pointer (some ⟨w.heap.size, 0, none⟩), .pointer (some ⟨w1.heap.size, 0, none⟩), .slice none 0 0] 47)) := (Below.refl _ _).alloc (Nat.le_refl _) _
  have hz : w1.heap.size = w.heap.size + 1 := Z1.out
  have B3 := hide ((B1.out.trans (hb2.mono (by omega))).trans (hA.mono (by omega)))
  have P3 : Hid (Par (w2.alloc (.cells #[.pointer (some ⟨w.heap.size, 0, none⟩), .pointer (some ⟨w1.heap.size, 0, none⟩), .slice none 0 0] 47)) (fun k => if k < w.heap.size then ro k else if k = w.heap.size then o + 2 else if k = w1.heap.size then o + 3 else o + 1) o w2.heap.size w.heap.size w1.heap.size (.slice none 0 0) (.slice none 0 0) (.slice none 0 0) (.slice none 0 0) [] [] [] E0) := by
    refine ⟨blk_new w2 _ [.pointer (some ⟨w.heap.size, 0, none⟩), .pointer (some ⟨w1.heap.size, 0, none⟩), .slice none 0 0], (D1.out.later hb2).later hA, r2.later hA, World.ownsRow_nil _ _ _ _, (fun z hz => by cases hz), by omega, Nat.zero_le _, ?_, ?_, ?_, fun k hk => by cases hk⟩
    · show (if _ then _ else _) = _
      rw [if_neg (by omega), if_neg (by omega), if_neg (by omega)]
    · rintro k (rfl | hk)
      · show (if _ then _ else _) = _
        rw [if_neg (by omega), if_pos rfl]
      · cases hk
    · rintro k (rfl | hk | hk)
      · show (if _ then _ else _) = _
        rw [if_neg (by omega), if_neg (by omega), if_pos rfl]
      · cases hk
      · cases hk
  have G3 : Hid (w.heap.size ≤ w2.heap.size) := by show _ ≤ _; omega
  obtain ⟨rf, hrf⟩ : ∃ rf : Nat → Nat, rf = (fun k => if k < w.heap.size then ro k else if k = w.heap.size then o + 2 else if k = w1.heap.size then o + 3 else o + 1) := ⟨_, rfl⟩
  have RF : Hid (∀ k, k < w.heap.size → rf k = ro k) := by
    show ∀ k, _
    intro k hk
    rw [hrf]
    show (if _ then _ else _) = _
    rw [if_pos hk]
  rw [← hrf] at P3
  clear r2 hb2 hz2 hA hrf hz
  go_wp2
  go_ret
  exact ⟨_, _, _, rf, rfl, G3.out, B3.out, RF.out, P3.out⟩

set_option maxHeartbeats 4000000 in
set_option maxRecDepth 100000 in
theorem looks_any (w : World) (ro : Nat → Nat) (o pb b rb : Nat) (pv sv tv rv : Value) (S T R : List Int) (E0 : Nat) (h : Par w ro o pb b rb pv sv tv rv S T R E0) :
    Calls Try.prog 34 #[.pointer (some ⟨pb, 0, none⟩)] w fun r w' => r = .returned (.bool true) ∧ Below w.heap.size w w' := by
  have c0 := h.box.cell 0 _ rfl
  have c1 := h.box.cell 1 _ rfl
  have HD := hide h.d
  have HR := hide h.r
  have HPB := hide h.box.lt
  clear h
  go_enter Try.func34, Try.ntmps34
  go_wp2_with fail
  refine (look_any _ b pv (S ++ T) S.length _ HD.out).mono ?_
  rintro e w1 ⟨v, rfl, hown, hb1⟩
  obtain ⟨va, vc, rfl, _, _, sg⟩ := seg_own hown
  have d1 : w1.cell? ⟨pb, 1, none⟩ = some (.pointer (some ⟨rb, 0, none⟩)) := (hb1.cell (p := ⟨pb, 1, none⟩) HPB.out).trans c1
  have R1 := hide (HR.out.later hb1)
  have B1 := hide hb1
  have SV := hide sg
  clear hown hb1 sg c0 c1
  obtain ⟨ln, hln⟩ : ∃ ln, ln = (S ++ T).length := ⟨_, rfl⟩
  have HLN := hide hln
  rw [← hln] at SV ⊢
  clear hln
  go_wp2_with fail
  refine (rlook_any _ rb sv tv S T _ R1.out).mono ?_
  rintro e w2 ⟨v2, rfl, hown2, hb2⟩
  obtain ⟨vb, vd, rfl, _, _, sg2⟩ := seg_own hown2
  have B2 := hide (B1.out.trans (hb2.mono B1.out.size))
  have SV2 := hide (SV.out.below hb2 (Nat.le_refl _))
  have SW2 := hide sg2
  rw [← HLN.out] at SW2 ⊢
  clear hown2 hb2 sg2
  generalize S ++ T = L at *
  generalize S.length = sn at *
  go_wp2_with fail
  refine (same_any va vb ln ln vc vd L L _ SV2.out SW2.out).mono ?_
  rintro e w3 ⟨rfl, q, rfl⟩
  rw [same_yes rfl]
  go_wp2
  go_ret
  exact ⟨rfl, below_drewN' B2.out q⟩

/-- What lay leaves. -/
structure Laid9 (w w' : World) (pb b rb : Nat) (rv : Value) (n : Nat) (l : List Int) (E0 g c rn : Nat) (R' : List Int) : Prop where
  mine : Mine w' E0 g rn c R'
  le : n + 3 ≤ rn
  top : rn ≤ 140737488351235
  tk : R'.take (n + 3) = l ++ [91, 92, 93]
  byt : Byt R'
  box : Blk w' pb [.pointer (some ⟨b, 0, none⟩), .pointer (some ⟨rb, 0, none⟩), .slice (some ⟨g, 0, none⟩) rn c]
  tch : Tch pb rv.ownBlock w w'
  lat : Lat rv.ownBlock (some g) w
theorem byt_marks {l : List Int} (h : Byt l) : Byt (l ++ [91, 92, 93]) := fun z hz => (List.mem_append.1 hz).elim (h z) (fun h2 => by simp only [List.mem_cons, List.not_mem_nil, or_false] at h2; omega)
theorem lay_any (w : World) (ro : Nat → Nat) (o pb b rb : Nat) (pv sv tv rv : Value) (S T R : List Int) (E0 : Nat) (h : Par w ro o pb b rb pv sv tv rv S T R E0) (a : Option Addr) (n cap m3 : Nat) (l : List Int) (hs : Seg w a n l) (hy : Byt l) (hsep : ∀ x, a = some x → 0 < n → rv.ownBlock ≠ some x.block) (hn : n ≤ 140737488351232) (hm3 : m3 = n + 3) :
    Calls Try.prog 38 #[.pointer (some ⟨pb, 0, none⟩), .slice a n cap] w fun r w' => ∃ g c rn R', r = .returned (.slice (some ⟨g, 0, none⟩) m3 c) ∧ Laid9 w w' pb b rb rv n l E0 g c rn R' := by
  have hE : E0 ≤ w.heap.size := by have := h.low; have := h.box.lt; omega
  by_cases hlt : R.length < n + 3
  · obtain ⟨ra, rc, hrv⟩ := own_shape h.room
    refine (lay_newC w pb _ _ rv R.length a n cap l _ rfl h.box ⟨ra, rc, hrv⟩ hs hn hlt).mono ?_
    rintro e w' ⟨g, c, rfl, hg, ho, hbx, ht⟩
    have hl3 : (l ++ [91, 92, 93]).length = n + 3 := by rw [List.length_append, hs.1]; rfl
    refine ⟨g, c, n + 3, l ++ [91, 92, 93], by rw [hm3], ?_⟩
    obtain ⟨o1, o2⟩ := ho
    refine ⟨⟨⟨o1, o2.elim .inl fun ⟨g2, c2, cur, e, hB, r⟩ => .inr ⟨g2, c2, cur, e, by omega, r⟩⟩, hl3, ?_, ?_, by omega⟩, Nat.le_refl _, by omega, by rw [List.take_of_length_le (by omega)], byt_marks hy, hbx, ⟨ht.os, ht.tape, ht.output, ht.size, fun k hk h1 _ => ht.block k hk h1 (fun e => by cases e)⟩, .inr (fun k hk => by injection hk with hk; omega)⟩
    · rcases o2 with ⟨e, _⟩ | ⟨g2, c2, cur, e, _, _, h3, _⟩
      · cases e
      · cases e; exact h3
    · rcases o2 with ⟨e, _⟩ | ⟨g2, c2, cur, e, _, _, _, h4, _⟩
      · cases e
      · cases e; exact h4
  · obtain ⟨g, rc, hrv, hM⟩ := mine_of h.room (by omega)
    subst hrv
    have hpg : pb ≠ g := fun e => by have h1 := h.q1; have h2 := h.q4 g rfl; rw [e] at h1; omega
    refine (lay_oldC w pb _ _ g rc R.length m3 R _ E0 a n cap l rfl hm3 h.box hM hpg hs (fun x hx h0 e => hsep x hx h0 (by rw [e]; rfl)) hn (by omega) (by have := h.rtop; omega)).mono ?_
    rintro e w' ⟨rfl, hm, ht, hpb⟩
    have hl3 : (l ++ [91, 92, 93]).length = n + 3 := by rw [List.length_append, hs.1]; rfl
    exact ⟨g, rc, R.length, _, rfl, ⟨hm, by omega, h.rtop, by rw [List.take_append_of_le_length (by omega), List.take_of_length_le (by omega)], fun z hz => (List.mem_append.1 hz).elim (byt_marks hy z) (byt_drop h.byt _ z), h.box.of_block hpb, ht, .inl rfl⟩⟩
end Go.Proofs.Ytahpnfbjpdnapaa
