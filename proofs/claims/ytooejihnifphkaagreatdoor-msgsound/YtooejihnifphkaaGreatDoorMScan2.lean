/- The contracts of the scan's deps and attr. -/
import Derived.Test.YtooejihnifphkaaGreatDoorMScan
import Derived.Test.YtooejihnifphkaaGreatDoorMRule3
namespace Go.Proofs.YtooejihnifphkaaGreatDoor
open Go.RowKit Go.Wire1

/-- A list of ints that lies in a block from B on. -/
def DV (w : World) (B : Nat) (u : Value) (l : List Int) : Prop := ∃ a k c, u = .slice a k c ∧ SegI w a k l ∧ ∀ x, a = some x → 0 < k → B ≤ x.block
theorem DV.nil (w : World) (B : Nat) : DV w B (.slice none 0 0) [] := ⟨none, 0, 0, rfl, ⟨rfl, by unfold maxLen; omega, fun h => by omega, fun j => by simp⟩, fun x h => by cases h⟩
theorem DV.of_blocks {w w' : World} {B : Nat} {u : Value} {l : List Int} (h : DV w B u l) (hb : ∀ k, B ≤ k → k < w.heap.size → w'.heap[k]? = w.heap[k]?) : DV w' B u l := by
  obtain ⟨a, k, c, rfl, ⟨h1, h2, h3, h4⟩, h5⟩ := h
  refine ⟨a, k, c, rfl, ⟨h1, h2, fun hk => ?_, h4⟩, h5⟩
  obtain ⟨b, off, rfl, hc⟩ := h3 hk
  exact ⟨b, off, rfl, fun j hj => by rw [World.cell?_of_block (w := w) (hb b (h5 _ rfl hk) (cell_lt (hc j hj)))]; exact hc j hj⟩
theorem DV.touch {w w' : World} {B g : Nat} {u : Value} {l : List Int} (h : DV w B u l) (T : Touch g w w') (hg : g < B) : DV w' B u l := h.of_blocks fun k h1 h2 => T.block k h2 (by omega)
theorem DV.below {w w' : World} {B C : Nat} {u : Value} {l : List Int} (h : DV w B u l) (hb : Below C w w') (hC : w.heap.size ≤ C) : DV w' B u l := h.of_blocks fun k _ h2 => hb.block k (by omega)
theorem DV.set {w : World} {B q o : Nat} {u : Value} {l : List Int} (h : DV w B u l) (x : Value) (hq : q < B) : DV (w.setCell ⟨q, o, none⟩ x) B u l := h.of_blocks fun k h1 _ => Below.heap_setCell _ _ _ _ (by show k ≠ q; omega)
theorem DV.less {w : World} {B B' : Nat} {u : Value} {l : List Int} (h : DV w B u l) (hB : B' ≤ B) : DV w B' u l := by
  obtain ⟨a, k, c, e, h1, h2⟩ := h
  exact ⟨a, k, c, e, h1, fun x hx hk => Nat.le_trans hB (h2 x hx hk)⟩
theorem DV.shape {w : World} {B : Nat} {u : Value} {l : List Int} (h : DV w B u l) : ∃ a k c, u = .slice a k c := by
  obtain ⟨a, k, c, e, _⟩ := h; exact ⟨a, k, c, e⟩

def iDeps (v n : Int) (l : List Int) (f : Int) : List Int × List Int × Int := if f = 0 then (upL (upk v n l), l.drop (upN (upk v n l)), (upE (upk v n l) : Int)) else ([], l, f)
theorem upN_le {v n : Int} {l : List Int} (hy : Byt l) : upN (upk v n l) ≤ l.length := by
  cases h : upk v n l with
  | error e => exact Nat.zero_le _
  | ok p => obtain ⟨xs, q⟩ := p; exact (upk_len hy h).2.1
theorem dv_own {w' : World} {B : Nat} {u : Value} {L : List Int} (h : w'.ownsRow B 3 1 u L.length (L.map (Value.int .i64))) (hf : Fit L) : DV w' B u L := by
  obtain ⟨a, c, hu, _, hs⟩ := own_segI h hf
  refine ⟨a, L.length, c, hu, hs, fun x hx hk => ?_⟩
  rcases h.2 with ⟨_, h2⟩ | ⟨b, cap, cur, e, hB, _⟩
  · omega
  · rw [hu, hx] at e
    injection e with e _ _
    injection e with e
    rw [e]
    exact hB

section
variable (w0 : World) (g : Nat) (v n : Int) (l : List Int)
set_option maxHeartbeats 8000000 in
set_option maxRecDepth 100000 in
theorem sdeps_any (a : Nat → Addr) (f : Int) (w : World) (he : Errs w0 a) (h : Scx w0 w g (Vf v n) l f) :
    Calls Tryz.prog 65 #[.pointer (some ⟨g, 0, none⟩)] w fun r w' => ∃ u, r = .returned u ∧ DV w' w.heap.size u (iDeps v n l f).1 ∧ Touch g w w' ∧ Scx w0 w' g (Vf v n) (iDeps v n l f).2.1 (iDeps v n l f).2.2 := by
  have HX := hide h
  have HE := hide he
  have hgl := h.lt
  obtain ⟨sa, m, cap, hs⟩ := h
  have r0 := hs.rest
  have r1 := hs.flt
  have r2 : w.cell? ⟨g, 2, none⟩ = some (.int .i64 v) := hs.more 2 (Nat.le_refl _)
  have r9 : w.cell? ⟨g, 9, none⟩ = some (.int .i64 n) := hs.more 9 (by omega)
  have hsrc := hs.src
  have HS := hide hs
  clear hs he
  by_cases h0 : f = 0
  · subst h0
    obtain ⟨L, hL⟩ : ∃ L, Hid (upL (upk v n l) = L) := ⟨_, rfl⟩
    obtain ⟨kk, hkk⟩ : ∃ kk, Hid (upN (upk v n l) = kk) := ⟨_, rfl⟩
    obtain ⟨f1, hf1⟩ : ∃ f1, Hid (((upE (upk v n l) : Nat) : Int) = f1) := ⟨_, rfl⟩
    have e1 : Hid (iDeps v n l 0 = (L, l.drop kk, f1)) := by show _ = _; unfold iDeps; rw [if_pos rfl, hL.out, hkk.out, hf1.out]
    rw [e1.out]
    simp only
    have hkl : Hid (kk ≤ l.length) := by rw [← hkk.out]; exact upN_le HS.out.byt
    have FL : Hid (Fit L) := by rw [← hL.out]; exact fit_up HS.out.byt _ _
    have BU1 : Hid (Below w.heap.size w w.drew) := (Below.refl _ _).drew
    have HL : Hid (Below w0.heap.size w0 w.drew) := low_on HS.out.low BU1.out HS.out.low.size
    go_enter Tryz.func65, Tryz.ntmps65
    go_wp2
    refine wp_region_noPanic ?_
    refine wp_region_held_drew (S := (fun w' => w'.cell? ⟨g, 0, none⟩ = some (.slice sa m cap) ∧ w'.cell? ⟨g, 2, none⟩ = some (.int .i64 v) ∧ w'.cell? ⟨g, 9, none⟩ = some (.int .i64 n))) (by kernel_rfl) ⟨r0, r2, r9⟩ (fun hHeld => ?_)
    refine wpAnyH_take (i := 0) (v := ?_) rfl (by kernel_rfl) (by kernel_rfl) (by kernel_rfl) (fun _ _ _ h => h) (Or.inl ⟨by rfl, ?_⟩) (by assumption) ?_
    rotate_left
    · intro w hSw
      try dsimp only at hSw
      go_simp
      try with_reducible rfl
    try simp only [Act.put, List.getElem_toArray, List.getElem_cons_zero, List.setIfInBounds_toArray, List.set_cons_zero, List.set_cons_succ]
    refine wpAnyH_take (i := 1) (v := ?_) rfl (by kernel_rfl) (by kernel_rfl) (by kernel_rfl) (fun _ _ _ h => h) (Or.inl ⟨by rfl, ?_⟩) (by assumption) ?_
    rotate_left
    · intro w hSw
      try dsimp only at hSw
      go_simp
      try with_reducible rfl
    try simp only [Act.put, List.getElem_toArray, List.getElem_cons_succ, List.getElem_cons_zero, List.setIfInBounds_toArray, List.set_cons_zero, List.set_cons_succ]
    refine wpAnyH_take (i := 2) (v := ?_) rfl (by kernel_rfl) (by kernel_rfl) (by kernel_rfl) (fun _ _ _ h => h) (Or.inl ⟨by rfl, ?_⟩) (by assumption) ?_
    rotate_left
    · intro w hSw
      try dsimp only at hSw
      go_simp
      try with_reducible rfl
    try simp only [Act.put, List.getElem_toArray, List.getElem_cons_succ, List.getElem_cons_zero, List.setIfInBounds_toArray, List.set_cons_zero, List.set_cons_succ]
    refine wpAnyH_take (i := 3) (v := ?_) rfl (by kernel_rfl) (by kernel_rfl) (by kernel_rfl) (fun _ _ _ h => h) (Or.inl ⟨by rfl, ?_⟩) (by assumption) ?_
    rotate_left
    · intro w hSw
      try dsimp only at hSw
      go_simp
      try with_reducible rfl
    try simp only [Act.put, List.getElem_toArray, List.getElem_cons_succ, List.getElem_cons_zero, List.setIfInBounds_toArray, List.set_cons_zero, List.set_cons_succ]
    refine wpAnyH_take (i := 4) (v := ?_) rfl (by kernel_rfl) (by kernel_rfl) (by kernel_rfl) (fun _ _ _ h => h) (Or.inl ⟨by rfl, ?_⟩) (by assumption) ?_
    rotate_left
    · intro w hSw
      try dsimp only at hSw
      go_simp
      try with_reducible rfl
    try simp only [Act.put, List.getElem_toArray, List.getElem_cons_succ, List.getElem_cons_zero, List.setIfInBounds_toArray, List.set_cons_zero, List.set_cons_succ]
    refine wpAnyH_take (i := 5) (v := ?_) rfl (by kernel_rfl) (by kernel_rfl) (by kernel_rfl) (fun _ _ _ h => h) (Or.inl ⟨by rfl, ?_⟩) (by assumption) ?_
    rotate_left
    · intro w hSw
      try dsimp only at hSw
      go_simp
      try with_reducible rfl
    try simp only [Act.put, List.getElem_toArray, List.getElem_cons_succ, List.getElem_cons_zero, List.setIfInBounds_toArray, List.set_cons_zero, List.set_cons_succ]
    refine wpAnyH_take (i := 6) (v := ?_) rfl (by kernel_rfl) (by kernel_rfl) (by kernel_rfl) (fun _ _ _ h => h) (Or.inl ⟨by rfl, ?_⟩) (by assumption) ?_
    rotate_left
    · intro w hSw
      try dsimp only at hSw
      go_simp
      try with_reducible rfl
    try simp only [Act.put, List.getElem_toArray, List.getElem_cons_succ, List.getElem_cons_zero, List.setIfInBounds_toArray, List.set_cons_zero, List.set_cons_succ]
    refine wpAnyH_take (i := 7) (v := ?_) rfl (by kernel_rfl) (by kernel_rfl) (by kernel_rfl) (fun _ _ _ h => h) (Or.inl ⟨by rfl, ?_⟩) (by assumption) ?_
    rotate_left
    · intro w hSw
      try dsimp only at hSw
      go_simp
      try with_reducible rfl
    try simp only [Act.put, List.getElem_toArray, List.getElem_cons_succ, List.getElem_cons_zero, List.setIfInBounds_toArray, List.set_cons_zero, List.set_cons_succ]
    refine wpAnyH_take (i := 8) (v := ?_) rfl (by kernel_rfl) (by kernel_rfl) (by kernel_rfl) (fun _ _ _ h => h) (Or.inl ⟨by rfl, ?_⟩) (by assumption) ?_
    rotate_left
    · intro w hSw
      try dsimp only at hSw
      go_simp
      try with_reducible rfl
    try simp only [Act.put, List.getElem_toArray, List.getElem_cons_succ, List.getElem_cons_zero, List.setIfInBounds_toArray, List.set_cons_zero, List.set_cons_succ]
    refine wpAnyH_take (i := 9) (v := ?_) rfl (by kernel_rfl) (by kernel_rfl) (by kernel_rfl) (fun _ _ _ h => h) (Or.inl ⟨by rfl, ?_⟩) (by assumption) ?_
    rotate_left
    · intro w hSw
      try dsimp only at hSw
      go_simp
      try with_reducible rfl
    try simp only [Act.put, List.getElem_toArray, List.getElem_cons_succ, List.getElem_cons_zero, List.setIfInBounds_toArray, List.set_cons_zero, List.set_cons_succ]
    refine wpAnyH_take (i := 10) (v := ?_) rfl (by kernel_rfl) (by kernel_rfl) (by kernel_rfl) (fun _ _ _ h => h) (Or.inl ⟨by rfl, ?_⟩) (by assumption) ?_
    rotate_left
    · intro w hSw
      try dsimp only at hSw
      go_simp
      try with_reducible rfl
    try simp only [Act.put, List.getElem_toArray, List.getElem_cons_succ, List.getElem_cons_zero, List.setIfInBounds_toArray, List.set_cons_zero, List.set_cons_succ]
    refine wpAnyH_take (i := 11) (v := ?_) rfl (by kernel_rfl) (by kernel_rfl) (by kernel_rfl) (fun _ _ _ h => h) (Or.inl ⟨by rfl, ?_⟩) (by assumption) ?_
    rotate_left
    · intro w hSw
      try dsimp only at hSw
      go_simp
      try with_reducible rfl
    try simp only [Act.put, List.getElem_toArray, List.getElem_cons_succ, List.getElem_cons_zero, List.setIfInBounds_toArray, List.set_cons_zero, List.set_cons_succ]
    refine wpAnyH_take (i := 12) (v := ?_) rfl (by kernel_rfl) (by kernel_rfl) (by kernel_rfl) (fun _ _ _ h => h) (Or.inl ⟨by rfl, ?_⟩) (by assumption) ?_
    rotate_left
    · intro w hSw
      try dsimp only at hSw
      go_simp
      try with_reducible rfl
    try simp only [Act.put, List.getElem_toArray, List.getElem_cons_succ, List.getElem_cons_zero, List.setIfInBounds_toArray, List.set_cons_zero, List.set_cons_succ]
    refine wpAnyH_take (i := 13) (v := ?_) rfl (by kernel_rfl) (by kernel_rfl) (by kernel_rfl) (fun _ _ _ h => h) (Or.inl ⟨by rfl, ?_⟩) (by assumption) ?_
    rotate_left
    · intro w hSw
      try dsimp only at hSw
      go_simp
      try with_reducible rfl
    try simp only [Act.put, List.getElem_toArray, List.getElem_cons_succ, List.getElem_cons_zero, List.setIfInBounds_toArray, List.set_cons_zero, List.set_cons_succ]
    refine wpAnyH_ready (rs := [14]) (by kernel_rfl) (by simp) ?_
    refine AllReadyH.cons rfl (fun K hK => ?_) AllReadyH.nil
    rw [if_pos (by rfl)]
    go_wp2_with fail
    refine (unpackF_any v n m cap sa l a _ (HS.out.seg.below HL.out (Nat.le_refl _)) hsrc HS.out.byt (HE.out.below HL.out (Nat.le_refl _))).mono ?_
    rintro e w1 ⟨u, rfl, hown, hb1⟩
    rw [hkk.out, hf1.out]
    rw [hL.out] at hown
    have BW : Hid (Below w.heap.size w w1) := low_on BU1.out hb1 BU1.out.size
    have k0 := (BW.out.cell (p := ⟨g, 0, none⟩) hgl).trans r0
    have k2 := (BW.out.cell (p := ⟨g, 2, none⟩) hgl).trans r2
    have k9 := (BW.out.cell (p := ⟨g, 9, none⟩) hgl).trans r9
    refine hK.out _ _ ⟨k0, k2, k9⟩ (fun hHeld => ?_)
    clear hK K
    try simp only [Act.put, List.getElem_toArray, List.getElem_cons_succ, List.getElem_cons_zero, List.setIfInBounds_toArray, List.set_cons_zero, List.set_cons_succ]
    refine wpAnyH_take (i := 15) (v := ?_) rfl (by kernel_rfl) (by kernel_rfl) (by kernel_rfl) (fun _ _ _ h => h) (Or.inl ⟨by rfl, ?_⟩) (by assumption) ?_
    rotate_left
    · intro w hSw
      try dsimp only at hSw
      go_simp
      try with_reducible rfl
    try simp only [Act.put, List.getElem_toArray, List.getElem_cons_succ, List.getElem_cons_zero, List.setIfInBounds_toArray, List.set_cons_zero, List.set_cons_succ]
    refine wpAnyH_take (i := 16) (v := ?_) rfl (by kernel_rfl) (by kernel_rfl) (by kernel_rfl) (fun _ _ _ h => h) (Or.inl ⟨by rfl, ?_⟩) (by assumption) ?_
    rotate_left
    · intro w hSw
      try dsimp only at hSw
      go_simp
      try with_reducible rfl
    try simp only [Act.put, List.getElem_toArray, List.getElem_cons_succ, List.getElem_cons_zero, List.setIfInBounds_toArray, List.set_cons_zero, List.set_cons_succ]
    refine wpAnyH_take (i := 17) (v := ?_) rfl (by kernel_rfl) (by kernel_rfl) (by kernel_rfl) (fun _ _ _ h => h) (Or.inl ⟨by rfl, ?_⟩) (by assumption) ?_
    rotate_left
    · intro w hSw
      try dsimp only at hSw
      go_simp
      try with_reducible rfl
    try simp only [Act.put, List.getElem_toArray, List.getElem_cons_succ, List.getElem_cons_zero, List.setIfInBounds_toArray, List.set_cons_zero, List.set_cons_succ]
    refine wpAnyH_take (i := 18) (v := ?_) rfl (by kernel_rfl) (by kernel_rfl) (by kernel_rfl) (fun _ _ _ h => h) (Or.inl ⟨by rfl, ?_⟩) (by assumption) ?_
    rotate_left
    · intro w hSw
      try dsimp only at hSw
      go_simp
      try with_reducible rfl
    try simp only [Act.put, List.getElem_toArray, List.getElem_cons_succ, List.getElem_cons_zero, List.setIfInBounds_toArray, List.set_cons_zero, List.set_cons_succ]
    refine wpAnyH_take (i := 19) (v := ?_) rfl (by kernel_rfl) (by kernel_rfl) (by kernel_rfl) (fun _ _ _ h => h) (Or.inl ⟨by rfl, ?_⟩) (by assumption) ?_
    rotate_left
    · intro w hSw
      try dsimp only at hSw
      go_simp
      try with_reducible rfl
    try simp only [Act.put, List.getElem_toArray, List.getElem_cons_succ, List.getElem_cons_zero, List.setIfInBounds_toArray, List.set_cons_zero, List.set_cons_succ]
    refine wpAnyH_take (i := 20) (v := ?_) rfl (by kernel_rfl) (by kernel_rfl) (by kernel_rfl) (fun _ _ _ h => h) (Or.inl ⟨by rfl, ?_⟩) (by assumption) ?_
    rotate_left
    · intro w hSw
      try dsimp only at hSw
      go_simp
      try with_reducible rfl
    try simp only [Act.put, List.getElem_toArray, List.getElem_cons_succ, List.getElem_cons_zero, List.setIfInBounds_toArray, List.set_cons_zero, List.set_cons_succ]
    refine wpAnyH_take (i := 21) (v := ?_) rfl (by kernel_rfl) (by kernel_rfl) (by kernel_rfl) (fun _ _ _ h => h) (Or.inl ⟨by rfl, ?_⟩) (by assumption) ?_
    rotate_left
    · intro w hSw
      try dsimp only at hSw
      go_simp
      try with_reducible rfl
    try simp only [Act.put, List.getElem_toArray, List.getElem_cons_succ, List.getElem_cons_zero, List.setIfInBounds_toArray, List.set_cons_zero, List.set_cons_succ]
    refine wpAnyH_done (by kernel_rfl) ?_ _
    refine NoPanic.normal ?_
    have DU : Hid (DV w1 w.heap.size u L) := dv_own (by exact hown) FL.out
    obtain ⟨ua, uk, uc, rfl⟩ := DU.out.shape
    have SX : Hid (Scx w0 w1 g (Vf v n) l 0) := HX.out.below BW.out
    have TW : Hid (Touch g w w1) := Touch.ofBelow BW.out
    clear hb1 BW k0 k2 k9 hHeld hown
    go_wp2_with fail
    refine (ipass_any w0 g (Vf v n) l kk 0 f1 _ hkl.out SX.out).mono ?_
    rintro r w2 ⟨rfl, T2, S2⟩
    have R : Hid (DV w2 w.heap.size (.slice ua uk uc) L ∧ Touch g w w2 ∧ Scx w0 w2 g (Vf v n) (l.drop kk) f1) := ⟨DU.out.touch T2 hgl, TW.out.trans T2, S2⟩
    clear T2 S2 SX TW DU
    go_wp2
    go_ret
    exact ⟨_, rfl, R.out⟩
  · have e1 : Hid (iDeps v n l f = ([], l, f)) := by show _ = _; unfold iDeps; rw [if_neg h0]
    rw [e1.out]
    simp only
    have g1 : (f != 0) = true := by simpa using h0
    clear h0 e1
    go_enter Tryz.func65, Tryz.ntmps65
    go_wp2
    go_ret
    exact ⟨_, rfl, DV.nil _ _, Touch.refl _ _, HX.out⟩
end
end Go.Proofs.YtooejihnifphkaaGreatDoor
