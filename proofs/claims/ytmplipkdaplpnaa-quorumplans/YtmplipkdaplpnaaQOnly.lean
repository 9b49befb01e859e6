/- The contracts of only, of the library's MaxFunc by ballots, of highest. -/
import Derived.Test.YtmplipkdaplpnaaQTal
import Derived.OwnWalk
import Derived.Maps.AppendAt
import Derived.Deep.Cut
import Derived.Lib.SliceRun
namespace Go.Proofs.Ytmplipkdaplpnaa
open Go.RowKit Go.Wire1

theorem infoVQ : (Try.prog.info? 33).map (fun i => (i.zero, i.size, i.bytes)) = some (some (.agg (zv : List Value).toArray), 15, 168) := by kernel_rfl
theorem rowVQ_new (w : World) (cs : List Value) : ∀ j u, cs[j]? = some u → (w.alloc (.cells cs.toArray 33)).cell? ((⟨w.heap.size, 0, none⟩ : Addr).add j) = some u := fun j u hj => by
  rw [Addr.add_mid, Nat.zero_add]; exact (blk_new w 33 cs).cell j u hj
set_option maxHeartbeats 4000000 in
set_option maxRecDepth 100000 in
/-- only, by any function f that answers p. -/
theorem only_any (f : FuncId) (cb : Array Value) (p : Vt → Bool) (a : Option Addr) (c : Nat) (vs : List Vt) (w : World) (hr : RowS w 15 a vs.length (vs.map vcs)) (h7 : vs.length ≤ 7) (he : ∀ args w, (callFunc f args).run Try.prog w = .ok (.enter f args) w)
    (hc : ∀ (W : World), Below w.heap.size w W → ∀ v, Calls Try.prog f (#[.agg (vcs v).toArray] ++ cb) W fun e W' => e = .returned (.bool (p v)) ∧ Below W.heap.size W W') :
    Calls Try.prog 32 #[.slice a vs.length c, .func (.func f) #[] cb] w fun e w' => ∃ a' c', e = .returned (.slice a' (vs.filter p).length c') ∧ (vs.filter p).length ≤ c' ∧ RowS w' 15 a' (vs.filter p).length ((vs.filter p).map vcs) ∧ Below w.heap.size w w' := by
  obtain ⟨i0, hi, hz0, hz1, hz2⟩ := info_parts infoVQ
  have HR := hide hr
  have HC := hide hc
  obtain ⟨N, hN⟩ : ∃ N, vs.length = N := ⟨_, rfl⟩
  have HN := hide hN
  rw [hN] at HR h7 ⊢
  clear hr hc hN
  go_enter Try.func32, Try.ntmps32
  go_wp2
  go_loopw [10, 5] (fun i x wr => ∃ q : Nat, i = .int .i64 (q : Int) ∧ q ≤ N ∧ Hid (wr.ownsRow w.heap.size 33 15 x ((vs.take q).filter p).length (((vs.take q).filter p).map vcs).flatten) ∧ Hid (Below w.heap.size w wr)) (fun i _ _ => N - (intOf i).toNat)
  case atStart => exact ⟨0, rfl, Nat.zero_le _, by show World.ownsRow _ _ _ _ _ _ _; exact World.ownsRow_nil _ _ _ _, Below.refl _ _⟩
  case round =>
    obtain ⟨q, rfl, hq, HO, HB⟩ := hrel
    by_cases hlt : q < N
    · obtain ⟨v, hkv⟩ : ∃ v, vs[q]? = some v := ⟨_, List.getElem?_eq_getElem (by have := HN.out; omega)⟩
      have HNX : Hid (vs.take (q + 1) = vs.take q ++ [v]) := by show _ = _; rw [List.take_add_one, hkv]; rfl
      obtain ⟨b, off, rfl, hat⟩ := (HR.out.below HB.out (Nat.le_refl _) (by decide)).at_ (by omega)
      have HRG : Hid (wr.rangeAt b (off + q * 15) (vcs v)) := hat q (vcs v) (by rw [List.getElem?_map, hkv]; rfl)
      have hle : ((vs.take q).filter p).length ≤ q := Nat.le_trans (List.length_filter_le _ _) (by simp; omega)
      clear hat hkv
      have HO1 := hide (vcs_one v)
      obtain ⟨U, hU⟩ : ∃ U, U = wr.alloc (.cells zv.toArray 33) := ⟨_, rfl⟩
      have HUZ : Hid (Blk U wr.heap.size zv) := by rw [hU]; exact blk_new wr 33 zv
      have TU : Hid (U.there wr.heap.size 0 15) := HUZ.out.there
      obtain ⟨X1, hX1⟩ : ∃ X1, X1 = U.setCells wr.heap.size 0 (vcs v) := ⟨_, rfl⟩
      have HXB : Hid (Blk X1 wr.heap.size (vcs v)) := by rw [hX1]; exact blk_cells HUZ.out rfl
      have BX1 : Hid (Below wr.heap.size wr X1) := by rw [hX1, hU]; exact below_cells (Nat.le_refl _) _ _ _ ((Below.refl _ _).alloc (Nat.le_refl _) _)
      have HUU : Hid (wr.alloc (.cells #[.int .i64 0, .int .i64 0, .bool false, .int .i64 0, .int .i64 0, .int .i64 0, .int .i64 0, .int .i64 0, .string ⟨#[]⟩, .string ⟨#[]⟩, .string ⟨#[]⟩, .string ⟨#[]⟩, .int .i64 0, .int .i64 0, .slice none 0 0] 33) = U) := hU.symm
      have HX1 := hide hX1
      have BW1 : Hid (Below w.heap.size w X1) := HB.out.trans (BX1.out.mono HB.out.size)
      have hlt0 : wr.heap.size < X1.heap.size := HXB.out.lt
      have hww := HB.out.size
      have HOX : Hid (X1.ownsRow w.heap.size 33 15 u5 ((vs.take q).filter p).length (((vs.take q).filter p).map vcs).flatten) := own_below HO.out BX1.out (Nat.le_refl _)
      obtain ⟨ob, hob⟩ : ∃ ob, Hid (u5.ownBlock = ob) := ⟨_, rfl⟩
      have HOB : Hid (∀ j, ob = some j → w.heap.size ≤ j ∧ j < wr.heap.size) := fun j hj => by rw [← hob.out] at hj; exact HO.out.lt j hj
      clear hU hX1 HUZ HO
      go_wp2_with (first | (refine wpList_load_mid rfl 33 _ rfl b (off + q * 15) rfl (vcs v) _ HRG.out Try.underlying33 rfl (by kernel_rfl) ?_) | (rw [HUU.out]; refine wpList_store_mid rfl 33 _ _ rfl wr.heap.size 0 (vcs v).toArray rfl rfl TU.out (by kernel_rfl) (all_oneCell_toArray HO1.out) ?_; rw [← HX1.out]) | (refine wpList_load_mid rfl 33 _ rfl wr.heap.size 0 rfl (vcs v) _ HXB.out.range Try.underlying33 rfl (by kernel_rfl) ?_))
      refine (HC.out X1 BW1.out v).mono ?_
      rintro e w2 ⟨rfl, hb2⟩
      have B2 : Hid (Below wr.heap.size wr w2) := BX1.out.trans (hb2.mono (by omega))
      have HQ2 : Hid (Blk w2 wr.heap.size (vcs v)) := HXB.out.on hb2
      have HO2 : Hid (w2.ownsRow w.heap.size 33 15 u5 ((vs.take q).filter p).length (((vs.take q).filter p).map vcs).flatten) := own_below HOX.out hb2 (Nat.le_refl _)
      have hlt2 : wr.heap.size < w2.heap.size := HQ2.out.lt
      clear hb2 HUU HX1 HXB TU HOX
      cases hp : p v with
      | true =>
        have HE : Hid ((vs.take (q + 1)).filter p = (vs.take q).filter p ++ [v]) := by show _ = _; rw [HNX.out, List.filter_append, List.filter_cons, hp]; rfl
        have BWW : Hid (Below w.heap.size w w2) := HB.out.trans (B2.out.mono hww)
        clear hp
        generalize (vs.take q).filter p = fl at *
        go_wp2_with (first | (refine wpList_load_mid rfl 33 _ rfl wr.heap.size 0 rfl (vcs v) _ HQ2.out.range Try.underlying33 rfl (by kernel_rfl) ?_) | (refine wpList_buildOne rfl 25 33 _ rfl 15 (vcs v) rfl rfl i0 _ Try.underlying25 hi hz0 hz1 (by omega) (by omega) ?_) | (at_builtin; refine wpList_append_own_at _ rfl _ _ 25 rfl w.heap.size 33 i0 _ 15 168 Try.underlying25 hi hz0 hz1 hz2 (by kernel_rfl) (by decide) u5 _ _ rfl (World.ownsRow.alloc HO2.out _) ⟨w2.heap.size, 0, none⟩ 1 1 (vcs v) rfl rfl (rowVQ_new _ _) HO1.out (by unfold maxLen; omega) (by omega) (by simp; omega) ?_; intro v' w4 hown4 hgrow4 hnil4 hloc4; have HO4 := hide hown4; have HG4 := hide hgrow4; clear hown4 hgrow4 hnil4 hloc4))
        have HO5 : Hid (w4.ownsRow w.heap.size 33 15 v' ((vs.take (q + 1)).filter p).length (((vs.take (q + 1)).filter p).map vcs).flatten) := by
          show World.ownsRow _ _ _ _ _ _ _
          rw [HE.out, List.map_append, List.flatten_append, List.length_append]
          have := HO4.out
          simpa using this
        have HB4 : Hid (Below w.heap.size w w4) := (BWW.out.alloc (by omega) _).grown HG4.out (by simp; omega) (fun j hj => (HOB.out j (by rw [← hob.out]; exact hj)).1)
        go_roundw
        case rel => exact ⟨q + 1, by go_num, by omega, HO5, HB4⟩
        case measure => simp [intOf]; omega
      | false =>
        have HE : Hid ((vs.take (q + 1)).filter p = (vs.take q).filter p) := by show _ = _; rw [HNX.out, List.filter_append, List.filter_cons, hp]; simp
        have HO5 : Hid (w2.ownsRow w.heap.size 33 15 u5 ((vs.take (q + 1)).filter p).length (((vs.take (q + 1)).filter p).map vcs).flatten) := by rw [HE.out]; exact HO2.out
        have HB4 : Hid (Below w.heap.size w w2) := HB.out.trans (B2.out.mono hww)
        clear hp
        go_wp2
        go_roundw
        case rel => exact ⟨q + 1, by go_num, by omega, HO5, HB4⟩
        case measure => simp [intOf]; omega
    · have HX : Hid (vs.take q = vs) := List.take_of_length_le (by have := HN.out; omega)
      have HOE : Hid (wr.ownsRow w.heap.size 33 15 u5 (vs.filter p).length ((vs.filter p).map vcs).flatten) := by have := HO.out; rw [HX.out] at this; exact this
      obtain ⟨a', c', rfl, hc', hrow⟩ := rowS_of HOE.out (List.length_map ..) (by decide) (fun cs hcs => by obtain ⟨v, _, rfl⟩ := List.mem_map.1 hcs; exact ⟨rfl, vcs_one v⟩)
      have HRW := hide hrow
      have HCC := hide hc'
      clear hrow hc' HO HOE HX
      go_wp2
      go_ret
      exact ⟨a', c', rfl, HCC.out, HRW.out, HB.out⟩

/-- How two numbers stand. -/
def cmpI (x y : Int) : Int := if x < y then -1 else if y < x then 1 else 0
set_option maxHeartbeats 1000000 in
theorem compare_any (x y : Int) (w : World) : Calls Try.prog 76 #[.int .i64 x, .int .i64 y] w fun e w' => e = .returned (.int .i64 (cmpI x y)) ∧ w = w' := by
  by_cases h1 : x < y
  · have HQ : Hid (cmpI x y = -1) := by show _ = _; unfold cmpI; rw [if_pos h1]
    go_enter Try.func76, Try.ntmps76
    go_wp2_with (first | (go_at_call 82; refine (isNaN_any _ _).mono ?_; rintro e w' ⟨rfl, hw'⟩; rw [hw']; clear hw'))
    go_ret
    exact ⟨by rw [HQ.out]; rfl, rfl⟩
  · by_cases h2 : y < x
    · have HQ : Hid (cmpI x y = 1) := by show _ = _; unfold cmpI; rw [if_neg h1, if_pos h2]
      go_enter Try.func76, Try.ntmps76
      go_wp2_with (first | (go_at_call 82; refine (isNaN_any _ _).mono ?_; rintro e w' ⟨rfl, hw'⟩; rw [hw']; clear hw'))
      go_ret
      exact ⟨by rw [HQ.out]; rfl, rfl⟩
    · have HQ : Hid (cmpI x y = 0) := by show _ = _; unfold cmpI; rw [if_neg h1, if_neg h2]
      go_enter Try.func76, Try.ntmps76
      go_wp2_with (first | (go_at_call 82; refine (isNaN_any _ _).mono ?_; rintro e w' ⟨rfl, hw'⟩; rw [hw']; clear hw'))
      go_ret
      exact ⟨by rw [HQ.out]; rfl, rfl⟩
/-- The first that is not 0. -/
def or2 (x y : Int) : Int := if x = 0 then y else x
set_option maxHeartbeats 1000000 in
set_option maxRecDepth 100000 in
theorem cmpOr_any (g : Nat) (x y : Int) (w : World) (c0 : w.cell? ⟨g, 0, none⟩ = some (.int .i64 x)) (c1 : w.cell? ⟨g, 1, none⟩ = some (.int .i64 y)) : Calls Try.prog 75 #[.slice (some ⟨g, 0, none⟩) 2 2] w fun e w' => e = .returned (.int .i64 (or2 x y)) ∧ w = w' := by
  have C0 := hide c0
  have C1 := hide c1
  clear c0 c1
  go_enter Try.func75, Try.ntmps75
  go_wp2
  go_loopw [8] (fun i wr => wr = w ∧ ((i = .int .i64 0) ∨ (i = .int .i64 1 ∧ x = 0) ∨ (i = .int .i64 2 ∧ x = 0 ∧ y = 0))) (fun i _ => 2 - (intOf i).toNat)
  case atStart => exact ⟨rfl, .inl rfl⟩
  case round =>
    obtain ⟨rfl, h⟩ := hrel
    rcases h with rfl | ⟨rfl, hx⟩ | ⟨rfl, hx, hy⟩
    · have c0 := C0.out
      by_cases hx : x = 0
      · have hx' := hide hx
        subst hx
        go_wp2
        go_roundw
        case rel => simp
        case measure => simp [intOf]
      · have HQ : Hid (or2 x y = x) := by show _ = _; unfold or2; rw [if_neg hx]
        have hb : (x != 0) = true := by simp [hx]
        clear hx
        go_wp2
        go_ret
        exact ⟨by rw [HQ.out]; rfl, rfl⟩
    · have c1 := C1.out
      have HQ : Hid (or2 x y = y) := by show _ = _; unfold or2; rw [if_pos hx]
      have HX := hide hx
      clear hx
      by_cases hy : y = 0
      · subst hy
        go_wp2
        go_roundw
        case rel => simp [HX.out]
        case measure => simp [intOf]
      · have hb : (y != 0) = true := by simp [hy]
        clear hy
        go_wp2
        go_ret
        exact ⟨by rw [HQ.out]; rfl, rfl⟩
    · have HQ : Hid (or2 x y = 0) := by show _ = _; unfold or2; rw [if_pos hx]; exact hy
      clear hx hy
      go_wp2
      go_ret
      exact ⟨by rw [HQ.out]; rfl, rfl⟩
/-- How two votes stand by their ballots. -/
def byB (v u : Vt) : Int := or2 (cmpI v.rd u.rd) (cmpI v.who u.who)
set_option maxHeartbeats 4000000 in
set_option maxRecDepth 100000 in
theorem byBallot_any (v u : Vt) (w : World) : Calls Try.prog 59 #[.agg (vcs v).toArray, .agg (vcs u).toArray] w fun e w' => e = .returned (.int .i64 (byB v u)) ∧ Below w.heap.size w w' := by
  obtain ⟨U, hU⟩ : ∃ U, U = (w.alloc (.cells (vcs v).toArray 33)).alloc (.cells (vcs u).toArray 33) := ⟨_, rfl⟩
  have BU : Hid (Below w.heap.size w U) := by rw [hU]; exact ((Below.refl _ w).alloc (Nat.le_refl _) _).alloc (by simp) _
  have QU : Hid (Blk U w.heap.size (vcs v)) := by rw [hU]; exact (blk_new w 33 (vcs v)).on ((Below.refl _ _).alloc (Nat.le_refl _) _)
  have QU2 : Hid (Blk U (w.heap.size + 1) (vcs u)) := by
    have := blk_new (w.alloc (.cells (vcs v).toArray 33)) 33 (vcs u)
    rw [World.size_alloc] at this
    rw [hU]; exact this
  have HUS : Hid (w.heap.size + 1 < U.heap.size) := QU2.out.lt
  go_enter Try.func59, Try.ntmps59
  go_upto_region 1 with fail
  rw [← hU]
  clear hU
  refine wp_region_held_drew (S := (fun W' => W'.cell? ⟨w.heap.size, 3, none⟩ = some (.int .i64 v.rd) ∧ W'.cell? ⟨w.heap.size, 4, none⟩ = some (.int .i64 v.who) ∧ W'.cell? ⟨w.heap.size + 1, 3, none⟩ = some (.int .i64 u.rd) ∧ W'.cell? ⟨w.heap.size + 1, 4, none⟩ = some (.int .i64 u.who))) (by kernel_rfl) ⟨QU.out.cell 3 _ rfl, QU.out.cell 4 _ rfl, QU2.out.cell 3 _ rfl, QU2.out.cell 4 _ rfl⟩ (fun hHeld => ?_)
  refine wpAnyH_take (i := 0) (v := ?_) rfl (by kernel_rfl) (by kernel_rfl) (by kernel_rfl) (fun _ _ _ h => h) (Or.inl ⟨by rfl, ?_⟩) (by assumption) ?_
  rotate_left
  · intro w hSw
    try dsimp only at hSw
    go_simp
    try with_reducible rfl
  try simp only [Act.put, List.getElem_toArray, List.getElem_cons_zero, List.setIfInBounds_toArray, List.set_cons_zero, List.set_cons_succ]
  refine wpAnyH_take (i := 1) (v := ?_) rfl (by kernel_rfl) (by kernel_rfl) (by kernel_rfl) (fun _ _ _ h => h) (Or.inl ⟨by rfl, ?_⟩) (by assumption) ?_
  rotate_left
  · intro w hSw
    try dsimp only at hSw
    go_simp
    try with_reducible rfl
  try simp only [Act.put, List.getElem_toArray, List.getElem_cons_succ, List.getElem_cons_zero, List.setIfInBounds_toArray, List.set_cons_zero, List.set_cons_succ]
  refine wpAnyH_take (i := 2) (v := ?_) rfl (by kernel_rfl) (by kernel_rfl) (by kernel_rfl) (fun _ _ _ h => h) (Or.inl ⟨by rfl, ?_⟩) (by assumption) ?_
  rotate_left
  · intro w hSw
    try dsimp only at hSw
    have s0 := hSw.1
    go_simp
    try with_reducible rfl
  try simp only [Act.put, List.getElem_toArray, List.getElem_cons_succ, List.getElem_cons_zero, List.setIfInBounds_toArray, List.set_cons_zero, List.set_cons_succ]
  refine wpAnyH_take (i := 3) (v := ?_) rfl (by kernel_rfl) (by kernel_rfl) (by kernel_rfl) (fun _ _ _ h => h) (Or.inl ⟨by rfl, ?_⟩) (by assumption) ?_
  rotate_left
  · intro w hSw
    try dsimp only at hSw
    go_simp
    try with_reducible rfl
  try simp only [Act.put, List.getElem_toArray, List.getElem_cons_succ, List.getElem_cons_zero, List.setIfInBounds_toArray, List.set_cons_zero, List.set_cons_succ]
  refine wpAnyH_take (i := 4) (v := ?_) rfl (by kernel_rfl) (by kernel_rfl) (by kernel_rfl) (fun _ _ _ h => h) (Or.inl ⟨by rfl, ?_⟩) (by assumption) ?_
  rotate_left
  · intro w hSw
    try dsimp only at hSw
    go_simp
    try with_reducible rfl
  try simp only [Act.put, List.getElem_toArray, List.getElem_cons_succ, List.getElem_cons_zero, List.setIfInBounds_toArray, List.set_cons_zero, List.set_cons_succ]
  refine wpAnyH_take (i := 5) (v := ?_) rfl (by kernel_rfl) (by kernel_rfl) (by kernel_rfl) (fun _ _ _ h => h) (Or.inl ⟨by rfl, ?_⟩) (by assumption) ?_
  rotate_left
  · intro w hSw
    try dsimp only at hSw
    have s0 := hSw.2.2.1
    go_simp
    try with_reducible rfl
  try simp only [Act.put, List.getElem_toArray, List.getElem_cons_succ, List.getElem_cons_zero, List.setIfInBounds_toArray, List.set_cons_zero, List.set_cons_succ]
  refine wpAnyH_take (i := 7) (v := ?_) rfl (by kernel_rfl) (by kernel_rfl) (by kernel_rfl) (fun _ _ _ h => h) (Or.inl ⟨by rfl, ?_⟩) (by assumption) ?_
  rotate_left
  · intro w hSw
    try dsimp only at hSw
    go_simp
    try with_reducible rfl
  try simp only [Act.put, List.getElem_toArray, List.getElem_cons_succ, List.getElem_cons_zero, List.setIfInBounds_toArray, List.set_cons_zero, List.set_cons_succ]
  refine wpAnyH_take (i := 8) (v := ?_) rfl (by kernel_rfl) (by kernel_rfl) (by kernel_rfl) (fun _ _ _ h => h) (Or.inl ⟨by rfl, ?_⟩) (by assumption) ?_
  rotate_left
  · intro w hSw
    try dsimp only at hSw
    go_simp
    try with_reducible rfl
  try simp only [Act.put, List.getElem_toArray, List.getElem_cons_succ, List.getElem_cons_zero, List.setIfInBounds_toArray, List.set_cons_zero, List.set_cons_succ]
  refine wpAnyH_take (i := 9) (v := ?_) rfl (by kernel_rfl) (by kernel_rfl) (by kernel_rfl) (fun _ _ _ h => h) (Or.inl ⟨by rfl, ?_⟩) (by assumption) ?_
  rotate_left
  · intro w hSw
    try dsimp only at hSw
    have s0 := hSw.2.1
    go_simp
    try with_reducible rfl
  try simp only [Act.put, List.getElem_toArray, List.getElem_cons_succ, List.getElem_cons_zero, List.setIfInBounds_toArray, List.set_cons_zero, List.set_cons_succ]
  refine wpAnyH_take (i := 10) (v := ?_) rfl (by kernel_rfl) (by kernel_rfl) (by kernel_rfl) (fun _ _ _ h => h) (Or.inl ⟨by rfl, ?_⟩) (by assumption) ?_
  rotate_left
  · intro w hSw
    try dsimp only at hSw
    go_simp
    try with_reducible rfl
  try simp only [Act.put, List.getElem_toArray, List.getElem_cons_succ, List.getElem_cons_zero, List.setIfInBounds_toArray, List.set_cons_zero, List.set_cons_succ]
  refine wpAnyH_take (i := 11) (v := ?_) rfl (by kernel_rfl) (by kernel_rfl) (by kernel_rfl) (fun _ _ _ h => h) (Or.inl ⟨by rfl, ?_⟩) (by assumption) ?_
  rotate_left
  · intro w hSw
    try dsimp only at hSw
    go_simp
    try with_reducible rfl
  try simp only [Act.put, List.getElem_toArray, List.getElem_cons_succ, List.getElem_cons_zero, List.setIfInBounds_toArray, List.set_cons_zero, List.set_cons_succ]
  refine wpAnyH_take (i := 12) (v := ?_) rfl (by kernel_rfl) (by kernel_rfl) (by kernel_rfl) (fun _ _ _ h => h) (Or.inl ⟨by rfl, ?_⟩) (by assumption) ?_
  rotate_left
  · intro w hSw
    try dsimp only at hSw
    have s0 := hSw.2.2.2
    go_simp
    try with_reducible rfl
  try simp only [Act.put, List.getElem_toArray, List.getElem_cons_succ, List.getElem_cons_zero, List.setIfInBounds_toArray, List.set_cons_zero, List.set_cons_succ]
  refine wpAnyH_ready (rs := [6]) (by kernel_rfl) (by simp) ?_
  refine AllReadyH.cons rfl (fun K hK => ?_) AllReadyH.nil
  rw [if_pos (by rfl)]
  go_wp2_with fail
  refine (compare_any _ _ _).mono ?_
  rintro e w' ⟨rfl, rfl⟩
  refine hK.out _ _ hHeld (fun hHeld => ?_)
  clear hK K
  try simp only [Act.put, List.getElem_toArray, List.getElem_cons_succ, List.getElem_cons_zero, List.setIfInBounds_toArray, List.set_cons_zero, List.set_cons_succ]
  refine wpAnyH_ready (rs := [13]) (by kernel_rfl) (by simp) ?_
  refine AllReadyH.cons rfl (fun K hK => ?_) AllReadyH.nil
  rw [if_pos (by rfl)]
  go_wp2_with fail
  refine (compare_any _ _ _).mono ?_
  rintro e w' ⟨rfl, rfl⟩
  refine hK.out _ _ hHeld (fun hHeld => ?_)
  clear hK K
  try simp only [Act.put, List.getElem_toArray, List.getElem_cons_succ, List.getElem_cons_zero, List.setIfInBounds_toArray, List.set_cons_zero, List.set_cons_succ]
  refine wpAnyH_ready (rs := [14]) (by kernel_rfl) (by simp) ?_
  refine AllReadyH.cons rfl (fun K hK => ?_) AllReadyH.nil
  rw [if_pos (by rfl)]
  go_wp2_with fail
  refine hK.out _ _ ⟨Lib.cell?_alloc_some (W := U) _ hHeld.1, Lib.cell?_alloc_some (W := U) _ hHeld.2.1, Lib.cell?_alloc_some (W := U) _ hHeld.2.2.1, Lib.cell?_alloc_some (W := U) _ hHeld.2.2.2⟩ (fun hHeld => ?_)
  clear hK K
  try simp only [Act.put, List.getElem_toArray, List.getElem_cons_succ, List.getElem_cons_zero, List.setIfInBounds_toArray, List.set_cons_zero, List.set_cons_succ]
  refine wpAnyH_ready (rs := [15]) (by kernel_rfl) (by simp) ?_
  refine AllReadyH.cons rfl (fun K hK => ?_) AllReadyH.nil
  rw [if_pos (by rfl)]
  go_wp2_with fail
  refine (cmpOr_any U.heap.size _ _ _ (Blk.cell ((blk_new U 3 [.int .i64 (cmpI v.rd u.rd), .int .i64 (cmpI v.who u.who)]).drewN 1) 0 _ rfl) (Blk.cell ((blk_new U 3 [.int .i64 (cmpI v.rd u.rd), .int .i64 (cmpI v.who u.who)]).drewN 1) 1 _ rfl)).mono ?_
  rintro e w' ⟨rfl, rfl⟩
  refine hK.out _ _ hHeld (fun hHeld => ?_)
  clear hK K
  try simp only [Act.put, List.getElem_toArray, List.getElem_cons_succ, List.getElem_cons_zero, List.setIfInBounds_toArray, List.set_cons_zero, List.set_cons_succ]
  refine wpAnyH_take (i := 16) (v := ?_) rfl (by kernel_rfl) (by kernel_rfl) (by kernel_rfl) (fun _ _ _ h => h) (Or.inl ⟨by rfl, ?_⟩) (by assumption) ?_
  rotate_left
  · intro w hSw
    try dsimp only at hSw
    go_simp
    try with_reducible rfl
  try simp only [Act.put, List.getElem_toArray, List.getElem_cons_succ, List.getElem_cons_zero, List.setIfInBounds_toArray, List.set_cons_zero, List.set_cons_succ]
  refine wpAnyH_done (by kernel_rfl) ?_ _
  go_wp2
  go_ret
  exact ⟨rfl, BU.out.trans ((((Below.refl U.heap.size U).alloc (Nat.le_refl _) _).drew).mono BU.out.size)⟩
end Go.Proofs.Ytmplipkdaplpnaa
