/- The contracts of the document's own Same and differ. -/
import Derived.Test.YtmplipkdaplpnaaQPut
import Derived.Test.YtmplipkdaplpnaaQUni
import Derived.Test.YtmplipkdaplpnaaSameI
namespace Go.Proofs.Ytmplipkdaplpnaa
open Go.RowKit Go.Wire1

def eqB (seq : Int) (l : List Int) (v : Vt) : Bool := sameB l v.deps && (seq == v.seq)
theorem eqB_eqA (seq : Int) (l : List Int) (v : Vt) : eqB seq l v = eqA seq l v := by
  unfold eqB eqA sameB
  rw [Bool.eq_iff_iff]
  simp only [Bool.and_eq_true, beq_iff_eq, decide_eq_true_eq]
  constructor
  · rintro ⟨h1, h2⟩; exact ⟨h2.symm, h1.symm⟩
  · rintro ⟨h1, h2⟩; exact ⟨h2.symm, h1.symm⟩
def difK (seq : Int) (l : List Int) (m : List (Int × Vt)) (q : Nat) : Nat := (ansK m q).countP fun v => !eqB seq l v
theorem ansK_le (m : List (Int × Vt)) (q : Nat) : (ansK m q).length ≤ q := by
  unfold ansK
  exact Nat.le_trans (List.length_filterMap_le _ _) (by simp)
theorem difK_le (seq : Int) (l : List Int) (m : List (Int × Vt)) (q : Nat) : difK seq l m q ≤ q := Nat.le_trans List.countP_le_length (ansK_le m q)
set_option maxHeartbeats 1000000 in
set_option maxRecDepth 100000 in
theorem qSameA_any (s1 s2 : Int) (a1 a2 : Option Addr) (k1 c1 k2 c2 : Nat) (l1 l2 : List Int) (w : World) (h1 : SegI w a1 k1 l1) (h2 : SegI w a2 k2 l2) :
    Calls Try.prog 65 #[.agg #[.int .i64 s1, .slice a1 k1 c1], .agg #[.int .i64 s2, .slice a2 k2 c2]] w fun e w' => e = .returned (.bool (sameB l1 l2 && (s1 == s2))) ∧ Below w.heap.size w w' := by
  have hb : Below w.heap.size w ((w.alloc (.cells #[.int .i64 s1, .slice a1 k1 c1] 24)).alloc (.cells #[.int .i64 s2, .slice a2 k2 c2] 24)) := ((Below.refl _ w).alloc (Nat.le_refl _) _).alloc (by simp) _
  have HS1 := hide (h1.below hb (Nat.le_refl _))
  have HS2 := hide (h2.below hb (Nat.le_refl _))
  have HB := hide hb
  clear h1 h2 hb
  cases hs : sameB l1 l2 with
  | false =>
    go_enter Try.func65, Try.ntmps65
    go_wp2_with fail
    refine (sameI_any _ _ _ _ _ _ l1 l2 _ HS1.out HS2.out).mono ?_
    rintro e w' ⟨rfl, q, rfl⟩
    rw [hs]
    clear hs
    go_wp2
    go_ret
    exact ⟨rfl, below_drewN HB.out _⟩
  | true =>
    go_enter Try.func65, Try.ntmps65
    go_wp2_with fail
    refine (sameI_any _ _ _ _ _ _ l1 l2 _ HS1.out HS2.out).mono ?_
    rintro e w' ⟨rfl, q, rfl⟩
    rw [hs]
    clear hs
    go_wp2
    go_ret
    exact ⟨rfl, below_drewN HB.out _⟩
set_option maxHeartbeats 4000000 in
set_option maxRecDepth 100000 in
theorem differ_any (seq : Int) (a : Option Addr) (k c : Nat) (l : List Int) (bb : Nat) (m : List (Int × Vt)) (w : World) (hs : SegI w a k l) (hb : Blk w bb (bdC m)) (hv : ∀ v ∈ ansQ m, Vok w v) :
    Calls Try.prog 45 #[.agg #[.int .i64 seq, .slice a k c], .pointer (some ⟨bb, 0, none⟩)] w fun e w' => e = .returned (.int .i64 (((ansQ m).countP fun v => !eqB seq l v : Nat) : Int)) ∧ Below w.heap.size w w' := by
  obtain ⟨U, hU⟩ : ∃ U, U = w.alloc (.cells #[.int .i64 seq, .slice a k c] 24) := ⟨_, rfl⟩
  have BU : Hid (Below w.heap.size w U) := by rw [hU]; exact (Below.refl _ w).alloc (Nat.le_refl _) _
  have QU : Hid (Blk U w.heap.size [.int .i64 seq, .slice a k c]) := by rw [hU]; exact blk_new w 24 [.int .i64 seq, .slice a k c]
  have HS := hide hs
  have HBD := hide hb
  have HV := hide hv
  have HDK : Hid (∀ q, q ≤ 7 → difK seq l m q ≤ q) := fun q _ => difK_le seq l m q
  clear hs hb hv
  go_enter Try.func45, Try.ntmps45
  go_upto_region 1 with fail
  rw [← hU]
  go_wp2
  go_loopw [5, 6] (fun x i wr => ∃ q : Nat, i = .int .i64 (q : Int) ∧ q ≤ 7 ∧ x = .int .i64 (difK seq l m q : Nat) ∧ Hid (Below w.heap.size w wr) ∧ Hid (Below U.heap.size U wr)) (fun _ i _ => 7 - (intOf i).toNat)
  case atStart => exact ⟨0, rfl, Nat.zero_le _, rfl, BU, Below.refl _ _⟩
  case round =>
    obtain ⟨q, rfl, hq, hx, HB, HBU⟩ := hrel
    subst hx
    by_cases hlt : q < 7
    · have hi7 : (q : Int) < 7 := by omega
      have QB : Hid (Blk wr bb (bdC m)) := HBD.out.on HB.out
      have cb : wr.cell? ⟨bb, q, none⟩ = some (.bool (lkm m (q : Int)).isSome) := QB.out.cell q _ (bd_there m hlt)
      cases hs : (lkm m (q : Int)).isSome with
      | false =>
        rw [hs] at cb
        have HD2 : Hid (difK seq l m (q + 1) = difK seq l m q) := by show _ = _; unfold difK; rw [ansK_no hs]
        clear hs
        go_wp2
        go_roundw
        case rel => exact ⟨q + 1, by go_num, by omega, by rw [HD2.out], HB, HBU⟩
        case measure => simp [intOf]; omega
      | true =>
        rw [hs] at cb
        have hth := hide hs
        obtain ⟨bv, hbv⟩ : ∃ bv, bvt m q = bv := ⟨_, rfl⟩
        have HVB : Hid (Vok wr bv) := by
          have h1 : bv ∈ ansQ m := by
            rw [← ansK_all]
            unfold ansK
            obtain ⟨u, hu⟩ := Option.isSome_iff_exists.1 hs
            refine List.mem_filterMap.2 ⟨q, List.mem_range.2 hlt, ?_⟩
            rw [hu, ← hbv]; unfold bvt; rw [hu]; rfl
          exact (HV.out bv h1).below HB.out (Nat.le_refl _)
        have RV : Hid (wr.rangeAt bb (7 + q * 15) (vcs bv)) := by rw [← hbv]; exact bd_range QB.out hlt
        have hbw : bb < wr.heap.size := QB.out.lt
        have QA : Hid (Blk wr w.heap.size [.int .i64 seq, .slice a k c]) := QU.out.on HBU.out
        have RA : Hid (wr.rangeAt w.heap.size 0 [.int .i64 seq, .slice a k c]) := QA.out.range
        have hAw : w.heap.size < wr.heap.size := QA.out.lt
        have HSW : Hid (SegI wr a k l) := HS.out.below HB.out (Nat.le_refl _)
        clear hs
        have HBV := hide hbv
        clear hbv hU
        go_upto_region 6 with fail
        refine wp_region_held_drew (S := (fun W' => W'.rangeAt w.heap.size 0 [.int .i64 seq, .slice a k c] ∧ W'.rangeAt bb (7 + q * 15) (vcs bv))) (by kernel_rfl) ⟨RA.out, RV.out⟩ (fun hHeld => ?_)
        refine wpAnyH_take (i := 0) rfl (by kernel_rfl) (by kernel_rfl) (by kernel_rfl) (fun _ _ _ h => h) (yieldsIf_load_mid (by rfl) 24 _ rfl w.heap.size 0 rfl [.int .i64 seq, .slice a k c] _ (fun _ h => h.1) Try.underlying24 rfl (by kernel_rfl)) (by assumption) ?_
        try simp only [Act.put, List.getElem_toArray, List.getElem_cons_zero, List.setIfInBounds_toArray, List.set_cons_zero, List.set_cons_succ]
        refine wpAnyH_take (i := 1) (v := ?_) rfl (by kernel_rfl) (by kernel_rfl) (by kernel_rfl) (fun _ _ _ h => h) (Or.inl ⟨by rfl, ?_⟩) (by assumption) ?_
        rotate_left
        · intro w hSw
          try dsimp only at hSw
          go_simp
          try with_reducible rfl
        try simp only [Act.put, List.getElem_toArray, List.getElem_cons_succ, List.getElem_cons_zero, List.setIfInBounds_toArray, List.set_cons_zero, List.set_cons_succ]
        refine wpAnyH_take (i := 2) (v := ?_) rfl (by kernel_rfl) (by kernel_rfl) (by kernel_rfl) (fun _ _ _ h => h) (Or.inl ⟨by rfl, ?_⟩) (by assumption) ?_
        rotate_left
        · intro w hSw
          try dsimp only at hSw
          go_simp
          try with_reducible rfl
        try simp only [Act.put, List.getElem_toArray, List.getElem_cons_succ, List.getElem_cons_zero, List.setIfInBounds_toArray, List.set_cons_zero, List.set_cons_succ]
        refine wpAnyH_take (i := 3) (v := ?_) rfl (by kernel_rfl) (by kernel_rfl) (by kernel_rfl) (fun _ _ _ h => h) (Or.inl ⟨by rfl, ?_⟩) (by assumption) ?_
        rotate_left
        · intro w hSw
          try dsimp only at hSw
          go_simp
          try with_reducible rfl
        try simp only [Act.put, List.getElem_toArray, List.getElem_cons_succ, List.getElem_cons_zero, List.setIfInBounds_toArray, List.set_cons_zero, List.set_cons_succ]
        refine wpAnyH_take (i := 4) (v := ?_) rfl (by kernel_rfl) (by kernel_rfl) (by kernel_rfl) (fun _ _ _ h => h) (Or.inl ⟨by rfl, ?_⟩) (by assumption) ?_
        rotate_left
        · intro w hSw
          try dsimp only at hSw
          go_simp
          try with_reducible rfl
        try simp only [Act.put, List.getElem_toArray, List.getElem_cons_succ, List.getElem_cons_zero, List.setIfInBounds_toArray, List.set_cons_zero, List.set_cons_succ]
        refine wpAnyH_take (i := 5) (v := ?_) rfl (by kernel_rfl) (by kernel_rfl) (by kernel_rfl) (fun _ _ _ h => h) (Or.inl ⟨by rfl, ?_⟩) (by assumption) ?_
        rotate_left
        · intro w hSw
          try dsimp only at hSw
          go_simp
          try with_reducible rfl
        try simp only [Act.put, List.getElem_toArray, List.getElem_cons_succ, List.getElem_cons_zero, List.setIfInBounds_toArray, List.set_cons_zero, List.set_cons_succ]
        refine wpAnyH_take (i := 6) (v := ?_) rfl (by kernel_rfl) (by kernel_rfl) (by kernel_rfl) (fun _ _ _ h => h) (Or.inl ⟨by rfl, ?_⟩) (by assumption) ?_
        rotate_left
        · intro w hSw
          try dsimp only at hSw
          go_simp
          try with_reducible rfl
        try simp only [Act.put, List.getElem_toArray, List.getElem_cons_succ, List.getElem_cons_zero, List.setIfInBounds_toArray, List.set_cons_zero, List.set_cons_succ]
        refine wpAnyH_take (i := 7) (v := ?_) rfl (by kernel_rfl) (by kernel_rfl) (by kernel_rfl) (fun _ _ _ h => h) (Or.inl ⟨by rfl, ?_⟩) (by assumption) ?_
        rotate_left
        · intro w hSw
          try dsimp only at hSw
          have s1 := hSw.2 13 _ (vcs13 bv)
          go_simp
          try with_reducible rfl
        try simp only [Act.put, List.getElem_toArray, List.getElem_cons_succ, List.getElem_cons_zero, List.setIfInBounds_toArray, List.set_cons_zero, List.set_cons_succ]
        refine wpAnyH_take (i := 8) (v := ?_) rfl (by kernel_rfl) (by kernel_rfl) (by kernel_rfl) (fun _ _ _ h => h) (Or.inl ⟨by rfl, ?_⟩) (by assumption) ?_
        rotate_left
        · intro w hSw
          try dsimp only at hSw
          go_simp
          try with_reducible rfl
        try simp only [Act.put, List.getElem_toArray, List.getElem_cons_succ, List.getElem_cons_zero, List.setIfInBounds_toArray, List.set_cons_zero, List.set_cons_succ]
        refine wpAnyH_take (i := 9) (v := ?_) rfl (by kernel_rfl) (by kernel_rfl) (by kernel_rfl) (fun _ _ _ h => h) (Or.inl ⟨by rfl, ?_⟩) (by assumption) ?_
        rotate_left
        · intro w hSw
          try dsimp only at hSw
          go_simp
          try with_reducible rfl
        try simp only [Act.put, List.getElem_toArray, List.getElem_cons_succ, List.getElem_cons_zero, List.setIfInBounds_toArray, List.set_cons_zero, List.set_cons_succ]
        refine wpAnyH_take (i := 10) (v := ?_) rfl (by kernel_rfl) (by kernel_rfl) (by kernel_rfl) (fun _ _ _ h => h) (Or.inl ⟨by rfl, ?_⟩) (by assumption) ?_
        rotate_left
        · intro w hSw
          try dsimp only at hSw
          go_simp
          try with_reducible rfl
        try simp only [Act.put, List.getElem_toArray, List.getElem_cons_succ, List.getElem_cons_zero, List.setIfInBounds_toArray, List.set_cons_zero, List.set_cons_succ]
        refine wpAnyH_take (i := 11) (v := ?_) rfl (by kernel_rfl) (by kernel_rfl) (by kernel_rfl) (fun _ _ _ h => h) (Or.inl ⟨by rfl, ?_⟩) (by assumption) ?_
        rotate_left
        · intro w hSw
          try dsimp only at hSw
          go_simp
          try with_reducible rfl
        try simp only [Act.put, List.getElem_toArray, List.getElem_cons_succ, List.getElem_cons_zero, List.setIfInBounds_toArray, List.set_cons_zero, List.set_cons_succ]
        refine wpAnyH_take (i := 12) (v := ?_) rfl (by kernel_rfl) (by kernel_rfl) (by kernel_rfl) (fun _ _ _ h => h) (Or.inl ⟨by rfl, ?_⟩) (by assumption) ?_
        rotate_left
        · intro w hSw
          try dsimp only at hSw
          go_simp
          try with_reducible rfl
        try simp only [Act.put, List.getElem_toArray, List.getElem_cons_succ, List.getElem_cons_zero, List.setIfInBounds_toArray, List.set_cons_zero, List.set_cons_succ]
        refine wpAnyH_take (i := 13) (v := ?_) rfl (by kernel_rfl) (by kernel_rfl) (by kernel_rfl) (fun _ _ _ h => h) (Or.inl ⟨by rfl, ?_⟩) (by assumption) ?_
        rotate_left
        · intro w hSw
          try dsimp only at hSw
          go_simp
          try with_reducible rfl
        try simp only [Act.put, List.getElem_toArray, List.getElem_cons_succ, List.getElem_cons_zero, List.setIfInBounds_toArray, List.set_cons_zero, List.set_cons_succ]
        refine wpAnyH_take (i := 14) (v := ?_) rfl (by kernel_rfl) (by kernel_rfl) (by kernel_rfl) (fun _ _ _ h => h) (Or.inl ⟨by rfl, ?_⟩) (by assumption) ?_
        rotate_left
        · intro w hSw
          try dsimp only at hSw
          have s2 := hSw.2 14 _ (vcs14 bv)
          go_simp
          try with_reducible rfl
        try simp only [Act.put, List.getElem_toArray, List.getElem_cons_succ, List.getElem_cons_zero, List.setIfInBounds_toArray, List.set_cons_zero, List.set_cons_succ]
        refine wpAnyH_take (i := 15) (v := ?_) rfl (by kernel_rfl) (by kernel_rfl) (by kernel_rfl) (fun _ _ _ h => h) (Or.inl ⟨by rfl, ?_⟩) (by assumption) ?_
        rotate_left
        · intro w hSw
          try dsimp only at hSw
          go_simp
          try with_reducible rfl
        try simp only [Act.put, List.getElem_toArray, List.getElem_cons_succ, List.getElem_cons_zero, List.setIfInBounds_toArray, List.set_cons_zero, List.set_cons_succ]
        refine wpAnyH_ready (rs := [16]) (by kernel_rfl) (by simp) ?_
        refine AllReadyH.cons rfl (fun K hK => ?_) AllReadyH.nil
        rw [if_pos (by rfl)]
        go_wp2_with fail
        refine (qSameA_any seq bv.seq a bv.da k c bv.dn bv.dc l bv.deps _ (HSW.out.drewN 1) (HVB.out.seg.drewN 1)).mono ?_
        rintro e w5 ⟨rfl, hb5⟩
        obtain ⟨eb, heb⟩ : ∃ b, eqB seq l bv = b := ⟨_, rfl⟩
        rw [show (sameB l bv.deps && (seq == bv.seq)) = eb from heb]
        have HEB := hide heb
        clear heb
        have HB5 : Hid (Below wr.heap.size wr w5) := (Below.refl wr.heap.size wr).drew.trans hb5
        clear hb5
        refine hK.out _ _ ⟨range_below RA.out HB5.out hAw, range_below RV.out HB5.out hbw⟩ (fun hHeld => ?_)
        clear hK K
        try simp only [Act.put, List.getElem_toArray, List.getElem_cons_succ, List.getElem_cons_zero, List.setIfInBounds_toArray, List.set_cons_zero, List.set_cons_succ]
        refine wpAnyH_take (i := 17) (v := ?_) rfl (by kernel_rfl) (by kernel_rfl) (by kernel_rfl) (fun _ _ _ h => h) (Or.inl ⟨by rfl, ?_⟩) (by assumption) ?_
        rotate_left
        · intro w hSw
          try dsimp only at hSw
          go_simp
          try with_reducible rfl
        try simp only [Act.put, List.getElem_toArray, List.getElem_cons_succ, List.getElem_cons_zero, List.setIfInBounds_toArray, List.set_cons_zero, List.set_cons_succ]
        refine wpAnyH_done (by kernel_rfl) ?_ _
        have BW5 : Hid (Below w.heap.size w w5) := HB.out.trans (HB5.out.mono HB.out.size)
        have BU5 : Hid (Below U.heap.size U w5) := HBU.out.trans (HB5.out.mono HBU.out.size)
        cases eb with
        | true =>
          have HD2 : Hid (difK seq l m (q + 1) = difK seq l m q) := by show _ = _; unfold difK; rw [ansK_yes hth.out, List.countP_append]; rw [HBV.out]; simp [HEB.out]
          go_wp2
          go_roundw
          case rel => exact ⟨q + 1, by go_num, by omega, by rw [HD2.out], BW5, BU5⟩
          case measure => simp [intOf]; omega
        | false =>
          have HD2 : Hid (difK seq l m (q + 1) = difK seq l m q + 1) := by show _ = _; unfold difK; rw [ansK_yes hth.out, List.countP_append]; rw [HBV.out]; simp [HEB.out]
          have hdk := HDK.out q (by omega)
          go_wp2
          go_roundw
          case rel => exact ⟨q + 1, by go_num, by omega, by rw [HD2.out]; go_num, BW5, BU5⟩
          case measure => simp [intOf]; omega
    · obtain hq7 : q = 7 := by omega
      have HF : Hid (difK seq l m q = (ansQ m).countP fun v => !eqB seq l v) := by show _ = _; rw [hq7]; rfl
      go_wp2
      go_ret
      exact ⟨by rw [← HF.out]; rfl, HB.out⟩
end Go.Proofs.Ytmplipkdaplpnaa
