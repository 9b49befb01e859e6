/- Proved: for every list of numbers, of signed numbers and of texts (their bulk at most 1048576), WirePuts answers true: every PutUint, PutInt and PutText is the document's, and all that was handed out stays. Condition: the bulk (the row's own). -/
import Derived.Test.YthikofggapkhgaaRPut
import Derived.Test.YthikofggapkhgaaSLists
import Derived.Test.YthikofggapkhgaaPArgs
import Derived.ProofKit
import Derived.OpenShut
namespace Go.Proofs.Ythikofggapkhgaa
namespace wirePuts
open Go.ChangeShapes Go.WideShapes Go.ChangeAt Go.RowKit Go.Wire1 Go.Lib

theorem below_drewN' {B : Nat} {a w : World} (h : Below B a w) (d : Nat) : Below B a (w.drewN d) := ⟨h.os, h.tape, h.output, h.size, h.block⟩
/-- Two rows of lists that lie apart and hold the same. -/
structure Pair (w : World) (B : Nat) (v u : Value) (gs ws : List PL) (m : Nat) : Prop where
  fst : LRows w B v gs
  snd : LRows w B u ws
  len : gs.length = m
  len' : ws.length = m
  same : ∀ t, t < m → (gs.getD t plZ).L = (ws.getD t plZ).L
  sep : Sep v u
theorem Pair.below {w w' : World} {B C : Nat} {v u : Value} {gs ws : List PL} {m : Nat} (h : Pair w B v u gs ws m) (hb : Below C w w') (hC : w.heap.size ≤ C) : Pair w' B v u gs ws m :=
  ⟨h.fst.below hb hC, h.snd.below hb hC, h.len, h.len', h.same, h.sep⟩
theorem Pair.drewN {w : World} {B : Nat} {v u : Value} {gs ws : List PL} {m : Nat} (h : Pair w B v u gs ws m) (d : Nat) : Pair (w.drewN d) B v u gs ws m := ⟨h.fst, h.snd, h.len, h.len', h.same, h.sep⟩
theorem Pair.nil (w : World) (B : Nat) : Pair w B (.slice none 0 0) (.slice none 0 0) [] [] 0 := ⟨LRows.nil _ _, LRows.nil _ _, rfl, rfl, (fun t ht => absurd ht (Nat.not_lt_zero _)), fun g hg => by cases hg⟩
theorem same_snoc {gs ws : List PL} {m : Nat} (h1 : gs.length = m) (h2 : ws.length = m) (he : ∀ t, t < m → (gs.getD t plZ).L = (ws.getD t plZ).L) (p q : PL) (hpq : p.L = q.L) : ∀ t, t < m + 1 → ((gs ++ [p]).getD t plZ).L = ((ws ++ [q]).getD t plZ).L := fun t ht => by
  by_cases e : t < m
  · have h := he t e
    rw [List.getD, List.getD] at h
    rw [List.getD, List.getD, List.getElem?_append_left (by omega), List.getElem?_append_left (by omega)]; exact h
  · rw [List.getD, List.getD, List.getElem?_append_right (by omega), List.getElem?_append_right (by omega), show t - gs.length = 0 by omega, show t - ws.length = 0 by omega]; exact hpq
/-- A list that was handed out, at its block. -/
theorem mine_at {w : World} {B C : Nat} {v : Value} {L : List Int} (h : w.ownsRow B 5 1 v L.length (L.map (Value.int .u8))) (hl : 0 < L.length) (hC : C ≤ B) : ∃ g cap, v = .slice (some ⟨g, 0, none⟩) L.length cap ∧ Mine w C g L.length cap L := by
  obtain ⟨g, cap, e, h1, h2, h3, h4, h5⟩ := mine_of h hl
  refine ⟨g, cap, e, ⟨h1.1, ?_⟩, h2, h3, h4, by omega⟩
  rcases h1.2 with h6 | ⟨g', cap', cur, e', hB, r⟩
  · exact .inl h6
  · exact .inr ⟨g', cap', cur, e', by omega, r⟩
theorem e300 : enc 300 = [172, 2] := by decide +kernel
theorem u64_nat {z : Int} (h : (Lit.int .u64 z).wf = true) : ∃ x : Nat, z = (x : Int) ∧ x < 18446744073709551616 := by
  have b := bounds_u64 h
  exact ⟨z.toNat, by omega, by omega⟩
theorem enc_pos (x : Nat) (h : x < 18446744073709551616) : 0 < (enc x).length := (enc_le x h).1

set_option maxHeartbeats 1000000 in
set_option maxRecDepth 100000 in
theorem walk (xa : Option Addr) (xn xcap : Nat) (xs : List Int) (ya : Option Addr) (yn ycap : Nat) (ys : List Int) (sa : Option Addr) (sn scap : Nat) (ss : List ByteArray) (w : World) (hx : SegK .u64 w xa xn xs) (hy : SegK .i64 w ya yn ys) (hs : SegS w sa sn ss)
    (hxn : xn ≤ 1048576) (hyn : yn ≤ 1048576) (hsn : sn ≤ 1048576) :
    Calls Try.prog 5 #[.slice xa xn xcap, .slice ya yn ycap, .slice sa sn scap] w fun e w' => e = .returned (.bool true) ∧ Below w.heap.size w w' := by
  obtain ⟨i0, hi, hz0, hz1, hz2⟩ := info_parts infoL
  obtain ⟨m0, hm0⟩ : ∃ m : Nat, Hid (m = 0) := ⟨0, hide rfl⟩
  have hm05 : m0 ≤ 5 := by have := hm0.out; omega
  have HX := hide hx
  have HY := hide hy
  have HS := hide hs
  clear hx hy hs
  go_enter Try.func5, Try.ntmps5
  go_wp2_with fail
  refine (putUint_any 300 _ (by decide)).mono ?_
  rintro e w1 ⟨v1, rfl, hown, hb1⟩
  rw [e300] at hown
  obtain ⟨g1, cap1, rfl, hm1⟩ := mine_at hown (by decide) (Nat.le_refl _)
  have HM1 := hide hm1
  have HB1 := hide hb1
  clear hown hm1 hb1
  go_wp2_with fail
  have HSA : Hid (Seg (w1.alloc (.cells #[.int .u8 172, .int .u8 2] 5)) (some ⟨w1.heap.size, 0, none⟩) 2 [172, 2]) := seg_new2 w1 172 2
  have HSB : Hid (Seg (w1.alloc (.cells #[.int .u8 172, .int .u8 2] 5)) (some ⟨g1, 0, none⟩) 2 [172, 2]) := HM1.out.seg.below ((Below.refl _ _).alloc (Nat.le_refl _) _) (Nat.le_refl _)
  refine (same_any _ _ 2 2 cap1 2 [172, 2] [172, 2] _ HSB.out HSA.out).mono ?_
  rintro e w2 ⟨rfl, q, rfl⟩
  rw [same_yes rfl]
  have HB2 : Hid (Below w.heap.size w ((w1.alloc (.cells #[.int .u8 172, .int .u8 2] 5)).drewN q)) := below_drewN' (HB1.out.alloc HB1.out.size _) q
  clear HSA HSB HM1 HB1
  generalize (w1.alloc (.cells #[.int .u8 172, .int .u8 2] 5)).drewN q = w2 at *
  go_wp2_with fail
  go_loopw [9, 10, 11] (fun v u x wr => ∃ (i : Nat) (gs ws : List PL), x = .int .i64 (i : Int) ∧ i ≤ xn ∧ Hid (Pair wr w.heap.size v u gs ws (m0 + i)) ∧ Hid (Below w.heap.size w wr)) (fun _ _ x _ => xn - (intOf x).toNat)
  case atStart => exact ⟨0, [], [], rfl, by omega, (by rw [hm0.out]; exact Pair.nil _ _), HB2⟩
  case round =>
    clear HB2
    obtain ⟨i, gs, ws, rfl, hi1, HP, HW⟩ := hrel
    have hsz := HW.out.size
    obtain ⟨ga, gc, rfl⟩ := HP.out.fst.shape
    obtain ⟨ua, uc, rfl⟩ := HP.out.snd.shape
    rw [HP.out.len, HP.out.len'] at HP ⊢
    by_cases hlt : i < xn
    · have HC := HX.out.below HW.out (Nat.le_refl _)
      obtain ⟨b, o, rfl, hc⟩ := HC.2.2.1 (by omega)
      have c0 := hc i hlt
      clear hc
      obtain ⟨X, hXe, hXl⟩ := u64_nat (HC.2.2.2 i hlt)
      rw [hXe] at c0
      clear hXe
      clear HC
      have hEp : 0 < (enc X).length := enc_pos X hXl
      have hEl : (enc X).length ≤ 1048600 := by have := (enc_le X hXl).2; omega
      obtain ⟨EE, hEE⟩ : ∃ l, Hid (enc X = l) := ⟨_, hide rfl⟩
      rw [hEE.out] at hEp hEl
      obtain ⟨EL, hELe⟩ : ∃ n, Hid (EE.length = n) := ⟨_, hide rfl⟩
      go_wp2_with fail
      refine (putUint_any X _ hXl).mono ?_
      rintro e w3 ⟨v3, rfl, hown3, hb3⟩
      rw [hEE.out] at hown3
      obtain ⟨g3, c3, rfl, hm3⟩ := mine_at hown3 hEp hsz
      have c0' : w3.cell? ⟨b, o + i, none⟩ = some (.int .u64 (X : Int)) := by
        rw [hb3.cell (p := ⟨b, o + i, none⟩) (cell_lt c0)]; exact c0
      have HP3 := hide (HP.out.below hb3 (Nat.le_refl _))
      have HW3 := hide (HW.out.trans (hb3.mono hsz))
      have HM3 := hide hm3
      rw [hELe.out] at HM3 ⊢
      clear hown3 hb3 c0 HP HW hsz hm3
      have hsz3 := HW3.out.size
      go_wp2_with fail
      refine (rputUint_any X _ hXl).mono ?_
      rintro e w4 ⟨v4, rfl, hown4, hb4⟩
      rw [hEE.out] at hown4
      obtain ⟨g4, c4, rfl, hm4⟩ := mine_at hown4 hEp hsz3
      have HP4 := hide (HP3.out.below hb4 (Nat.le_refl _))
      have HW4 := hide (HW3.out.trans (hb4.mono hsz3))
      have HM34 := hide (HM3.out.below hb4 (Nat.le_refl _))
      have HM4 := hide hm4
      clear hown4 hb4 c0' HP3 HW3 HM3 hm4 hsz3
      rw [hELe.out] at hEl HM4 ⊢
      go_wp2_with fail
      refine (same_any _ _ EL EL c3 c4 EE EE _ HM34.out.seg HM4.out.seg).mono ?_
      rintro e w5 ⟨rfl, q, rfl⟩
      rw [same_yes rfl]
      have PG := hide (HP4.out.drewN q).fst
      have PU := hide (HP4.out.drewN q).snd
      have PS := hide HP4.out.sep
      have HLG := hide HP4.out.len
      have HLU := hide HP4.out.len'
      have HSM := hide HP4.out.same
      replace HW4 := hide (below_drewN' HW4.out q)
      replace HM34 := hide (HM34.out.drewN q)
      replace HM4 := hide (HM4.out.drewN q)
      clear HP4 hEp
      generalize w4.drewN q = w5 at *
      have hsz5 := HW4.out.size
      have HOA := hide (PG.out.1.alloc (.cells #[.slice (some ⟨g3, 0, none⟩) EL c3] 23))
      rw [HLG.out] at HOA
      go_wp2_with (first
        | (at_builtin; refine wpList_append_own2 rfl _ _ 32 rfl w.heap.size 23 i0 (.slice none 0 0) 1 24 Try.underlying32 hi hz0 hz1 hz2 rfl (by decide) _ _ _ rfl HOA.out ⟨w5.heap.size, 0, none⟩ 1 1 [.slice (some ⟨g3, 0, none⟩) EL c3] rfl rfl ?c1 ?c2 (by omega) ?c3 ?c4 ?c5 ?_))
      case c1 =>
        intro j u hj
        match j, hj with
        | 0, hj => simp at hj; subst hj; simp [Addr.add]
      case c2 => intro u hu; simp at hu; subst hu; rfl
      case c3 => unfold maxLen; omega
      case c4 => omega
      case c5 => simp; omega
      intro w6v w6 hown' hgrow hat
      have HN6 := rows_push PG.out PU.out PS.out (p := ⟨g3, EL, c3, EE⟩) HM34.out (by rw [HLG.out]; exact hown') hgrow hat
      obtain ⟨hG6, hU6, hS6, hgr6⟩ := HN6
      have HM6 : Hid (Mine w6 w.heap.size g4 EL c4 EE) := by
        have hp : MineP w5 w.heap.size ⟨g4, EL, c4, EE⟩ := HM4.out
        exact Mine.of_block HM4.out (hgr6.block _ hp.lt (mine_apart hp PG.out.1))
      have HW6 : Hid (Below w.heap.size w w6) := Below.grown HW4.out hgr6 hsz5 (fun x hx => (PG.out.1.lt x hx).1)
      clear HOA hown' hgrow hat hgr6 PG PU PS HW4 HM34 HM4 hsz5
      have PG := hide hG6
      have PU := hide hU6
      have PS := hide hS6
      clear hG6 hU6 hS6
      obtain ⟨a6, c6, rfl⟩ := PG.out.shape
      have HLG6 : Hid ((gs ++ [(⟨g3, EL, c3, EE⟩ : PL)]).length = m0 + i + 1) := by show _ = _; rw [List.length_append, HLG.out]; rfl
      rw [HLG6.out] at PG PS ⊢
      have hsz6 := HW6.out.size
      have HOA := hide (PU.out.1.alloc (.cells #[.slice (some ⟨g4, 0, none⟩) EL c4] 23))
      rw [HLU.out] at HOA
      go_wp2_with (first
        | (at_builtin; refine wpList_append_own2 rfl _ _ 32 rfl w.heap.size 23 i0 (.slice none 0 0) 1 24 Try.underlying32 hi hz0 hz1 hz2 rfl (by decide) _ _ _ rfl HOA.out ⟨w6.heap.size, 0, none⟩ 1 1 [.slice (some ⟨g4, 0, none⟩) EL c4] rfl rfl ?c1 ?c2 (by omega) ?c3 ?c4 ?c5 ?_))
      case c1 =>
        intro j u hj
        match j, hj with
        | 0, hj => simp at hj; subst hj; simp [Addr.add]
      case c2 => intro u hu; simp at hu; subst hu; rfl
      case c3 => unfold maxLen; omega
      case c4 => omega
      case c5 => simp; omega
      intro w7v w7 hown' hgrow hat
      have HN7 := rows_push PU.out PG.out PS.out.symm (p := ⟨g4, EL, c4, EE⟩) HM6.out (by rw [HLU.out]; exact hown') hgrow hat
      obtain ⟨hU7, hG7, hS7, hgr7⟩ := HN7
      have HW7 : Hid (Below w.heap.size w w7) := Below.grown HW6.out hgr7 hsz6 (fun x hx => (PU.out.1.lt x hx).1)
      have HP7 : Hid (Pair w7 w.heap.size (.slice a6 (m0 + i + 1) c6) w7v (gs ++ [⟨g3, EL, c3, EE⟩]) (ws ++ [⟨g4, EL, c4, EE⟩]) (m0 + (i + 1))) :=
        ⟨hG7, hU7, HLG6.out, by rw [List.length_append, HLU.out]; rfl, same_snoc HLG.out HLU.out HSM.out _ _ rfl, hS7.symm⟩
      clear HOA hown' hgrow hat hgr7 PG PU PS HW6 HM6 hsz6 hG7 hU7 hS7 HLG HLU HLG6 HSM
      generalize gs ++ [(⟨g3, EL, c3, EE⟩ : PL)] = gs1 at *
      generalize ws ++ [(⟨g4, EL, c4, EE⟩ : PL)] = ws1 at *
      go_wp2
      go_roundw
      case rel => exact ⟨i + 1, gs1, ws1, by go_num, by omega, HP7, HW7⟩
      case measure => simp [intOf]; omega
    · have HB2 := HW
      clear HW hsz
      obtain ⟨m1, hm⟩ : ∃ m, Hid (m0 + i = m) := ⟨_, hide rfl⟩
      have hm1 : m1 ≤ 1048581 := by have := hm.out; omega
      rw [hm.out] at HP ⊢
      clear hm
      go_wp2_with fail
      go_loopw [9, 10, 14] (fun v u x wr => ∃ (i : Nat) (gs ws : List PL), x = .int .i64 (i : Int) ∧ i ≤ yn ∧ Hid (Pair wr w.heap.size v u gs ws (m1 + i)) ∧ Hid (Below w.heap.size w wr)) (fun _ _ x _ => yn - (intOf x).toNat)
      case atStart => exact ⟨0, gs, ws, rfl, by omega, by first | exact HP | (rw [Nat.add_zero]; exact HP), HB2⟩
      case round =>
        clear HB2 HP
        obtain ⟨i, gs, ws, rfl, hi1, HP, HW⟩ := hrel
        have hsz := HW.out.size
        obtain ⟨ga, gc, rfl⟩ := HP.out.fst.shape
        obtain ⟨ua, uc, rfl⟩ := HP.out.snd.shape
        rw [HP.out.len, HP.out.len'] at HP ⊢
        by_cases hlt : i < yn
        · have HC := HY.out.below HW.out (Nat.le_refl _)
          obtain ⟨b, o, rfl, hc⟩ := HC.2.2.1 (by omega)
          have c0 := hc i hlt
          clear hc
          have hb := bounds_i64 (HC.2.2.2 i hlt)
          generalize ys.getD i 0 = X at *
          clear HC
          have hEp : 0 < (enc (zig X)).length := enc_pos _ (zig_lt X (by omega) (by omega))
          have hEl : (enc (zig X)).length ≤ 1048600 := by have := (enc_le _ (zig_lt X (by omega) (by omega))).2; omega
          obtain ⟨EE, hEE⟩ : ∃ l, Hid (enc (zig X) = l) := ⟨_, hide rfl⟩
          rw [hEE.out] at hEp hEl
          obtain ⟨EL, hELe⟩ : ∃ n, Hid (EE.length = n) := ⟨_, hide rfl⟩
          go_wp2_with fail
          refine (putInt_any X _ (by omega) (by omega)).mono ?_
          rintro e w3 ⟨v3, rfl, hown3, hb3⟩
          rw [hEE.out] at hown3
          obtain ⟨g3, c3, rfl, hm3⟩ := mine_at hown3 hEp hsz
          have c0' : w3.cell? ⟨b, o + i, none⟩ = some (.int .i64 X) := by
            rw [hb3.cell (p := ⟨b, o + i, none⟩) (cell_lt c0)]; exact c0
          have HP3 := hide (HP.out.below hb3 (Nat.le_refl _))
          have HW3 := hide (HW.out.trans (hb3.mono hsz))
          have HM3 := hide hm3
          rw [hELe.out] at HM3 ⊢
          clear hown3 hb3 c0 HP HW hsz hm3
          have hsz3 := HW3.out.size
          go_wp2_with fail
          refine (rputInt_any X _ (by omega) (by omega)).mono ?_
          rintro e w4 ⟨v4, rfl, hown4, hb4⟩
          rw [hEE.out] at hown4
          obtain ⟨g4, c4, rfl, hm4⟩ := mine_at hown4 hEp hsz3
          have HP4 := hide (HP3.out.below hb4 (Nat.le_refl _))
          have HW4 := hide (HW3.out.trans (hb4.mono hsz3))
          have HM34 := hide (HM3.out.below hb4 (Nat.le_refl _))
          have HM4 := hide hm4
          clear hown4 hb4 c0' HP3 HW3 HM3 hm4 hsz3
          rw [hELe.out] at hEl HM4 ⊢
          go_wp2_with fail
          refine (same_any _ _ EL EL c3 c4 EE EE _ HM34.out.seg HM4.out.seg).mono ?_
          rintro e w5 ⟨rfl, q, rfl⟩
          rw [same_yes rfl]
          have PG := hide (HP4.out.drewN q).fst
          have PU := hide (HP4.out.drewN q).snd
          have PS := hide HP4.out.sep
          have HLG := hide HP4.out.len
          have HLU := hide HP4.out.len'
          have HSM := hide HP4.out.same
          replace HW4 := hide (below_drewN' HW4.out q)
          replace HM34 := hide (HM34.out.drewN q)
          replace HM4 := hide (HM4.out.drewN q)
          clear HP4 hEp
          generalize w4.drewN q = w5 at *
          have hsz5 := HW4.out.size
          have HOA := hide (PG.out.1.alloc (.cells #[.slice (some ⟨g3, 0, none⟩) EL c3] 23))
          rw [HLG.out] at HOA
          go_wp2_with (first
            | (at_builtin; refine wpList_append_own2 rfl _ _ 32 rfl w.heap.size 23 i0 (.slice none 0 0) 1 24 Try.underlying32 hi hz0 hz1 hz2 rfl (by decide) _ _ _ rfl HOA.out ⟨w5.heap.size, 0, none⟩ 1 1 [.slice (some ⟨g3, 0, none⟩) EL c3] rfl rfl ?c1 ?c2 (by omega) ?c3 ?c4 ?c5 ?_))
          case c1 =>
            intro j u hj
            match j, hj with
            | 0, hj => simp at hj; subst hj; simp [Addr.add]
          case c2 => intro u hu; simp at hu; subst hu; rfl
          case c3 => unfold maxLen; omega
          case c4 => omega
          case c5 => simp; omega
          intro w6v w6 hown' hgrow hat
          have HN6 := rows_push PG.out PU.out PS.out (p := ⟨g3, EL, c3, EE⟩) HM34.out (by rw [HLG.out]; exact hown') hgrow hat
          obtain ⟨hG6, hU6, hS6, hgr6⟩ := HN6
          have HM6 : Hid (Mine w6 w.heap.size g4 EL c4 EE) := by
            have hp : MineP w5 w.heap.size ⟨g4, EL, c4, EE⟩ := HM4.out
            exact Mine.of_block HM4.out (hgr6.block _ hp.lt (mine_apart hp PG.out.1))
          have HW6 : Hid (Below w.heap.size w w6) := Below.grown HW4.out hgr6 hsz5 (fun x hx => (PG.out.1.lt x hx).1)
          clear HOA hown' hgrow hat hgr6 PG PU PS HW4 HM34 HM4 hsz5
          have PG := hide hG6
          have PU := hide hU6
          have PS := hide hS6
          clear hG6 hU6 hS6
          obtain ⟨a6, c6, rfl⟩ := PG.out.shape
          have HLG6 : Hid ((gs ++ [(⟨g3, EL, c3, EE⟩ : PL)]).length = m1 + i + 1) := by show _ = _; rw [List.length_append, HLG.out]; rfl
          rw [HLG6.out] at PG PS ⊢
          have hsz6 := HW6.out.size
          have HOA := hide (PU.out.1.alloc (.cells #[.slice (some ⟨g4, 0, none⟩) EL c4] 23))
          rw [HLU.out] at HOA
          go_wp2_with (first
            | (at_builtin; refine wpList_append_own2 rfl _ _ 32 rfl w.heap.size 23 i0 (.slice none 0 0) 1 24 Try.underlying32 hi hz0 hz1 hz2 rfl (by decide) _ _ _ rfl HOA.out ⟨w6.heap.size, 0, none⟩ 1 1 [.slice (some ⟨g4, 0, none⟩) EL c4] rfl rfl ?c1 ?c2 (by omega) ?c3 ?c4 ?c5 ?_))
          case c1 =>
            intro j u hj
            match j, hj with
            | 0, hj => simp at hj; subst hj; simp [Addr.add]
          case c2 => intro u hu; simp at hu; subst hu; rfl
          case c3 => unfold maxLen; omega
          case c4 => omega
          case c5 => simp; omega
          intro w7v w7 hown' hgrow hat
          have HN7 := rows_push PU.out PG.out PS.out.symm (p := ⟨g4, EL, c4, EE⟩) HM6.out (by rw [HLU.out]; exact hown') hgrow hat
          obtain ⟨hU7, hG7, hS7, hgr7⟩ := HN7
          have HW7 : Hid (Below w.heap.size w w7) := Below.grown HW6.out hgr7 hsz6 (fun x hx => (PU.out.1.lt x hx).1)
          have HP7 : Hid (Pair w7 w.heap.size (.slice a6 (m1 + i + 1) c6) w7v (gs ++ [⟨g3, EL, c3, EE⟩]) (ws ++ [⟨g4, EL, c4, EE⟩]) (m1 + (i + 1))) :=
            ⟨hG7, hU7, HLG6.out, by rw [List.length_append, HLU.out]; rfl, same_snoc HLG.out HLU.out HSM.out _ _ rfl, hS7.symm⟩
          clear HOA hown' hgrow hat hgr7 PG PU PS HW6 HM6 hsz6 hG7 hU7 hS7 HLG HLU HLG6 HSM
          generalize gs ++ [(⟨g3, EL, c3, EE⟩ : PL)] = gs1 at *
          generalize ws ++ [(⟨g4, EL, c4, EE⟩ : PL)] = ws1 at *
          go_wp2
          go_roundw
          case rel => exact ⟨i + 1, gs1, ws1, by go_num, by omega, HP7, HW7⟩
          case measure => simp [intOf]; omega
        · have HB2 := HW
          clear HW hsz
          obtain ⟨m2, hm⟩ : ∃ m, Hid (m1 + i = m) := ⟨_, hide rfl⟩
          have hm2 : m2 ≤ 2097157 := by have := hm.out; omega
          rw [hm.out] at HP ⊢
          clear hm
          go_wp2_with fail
          go_loopw [9, 10, 17] (fun v u x wr => ∃ (i : Nat) (gs ws : List PL), x = .int .i64 (i : Int) ∧ i ≤ sn ∧ Hid (Pair wr w.heap.size v u gs ws (m2 + i)) ∧ Hid (Below w.heap.size w wr)) (fun _ _ x _ => sn - (intOf x).toNat)
          case atStart => exact ⟨0, gs, ws, rfl, by omega, by first | exact HP | (rw [Nat.add_zero]; exact HP), HB2⟩
          case round =>
            clear HB2 HP
            obtain ⟨i, gs, ws, rfl, hi1, HP, HW⟩ := hrel
            have hsz := HW.out.size
            obtain ⟨ga, gc, rfl⟩ := HP.out.fst.shape
            obtain ⟨ua, uc, rfl⟩ := HP.out.snd.shape
            rw [HP.out.len, HP.out.len'] at HP ⊢
            by_cases hlt : i < sn
            · have HC := HS.out.below HW.out (Nat.le_refl _)
              obtain ⟨b, o, rfl, hc⟩ := HC.2.2.1 (by omega)
              have c0 := hc i hlt
              clear hc
              have hb := HC.2.2.2 i hlt
              generalize ss.getD i ByteArray.empty = X at *
              clear HC
              have hEp : 0 < (enc X.size ++ txt X).length := by rw [List.length_append]; have := enc_pos X.size (by omega); omega
              have hEl : (enc X.size ++ txt X).length ≤ 1048600 := by rw [List.length_append, txt_len]; have := (enc_le X.size (by omega)).2; omega
              obtain ⟨EE, hEE⟩ : ∃ l, Hid (enc X.size ++ txt X = l) := ⟨_, hide rfl⟩
              rw [hEE.out] at hEp hEl
              obtain ⟨EL, hELe⟩ : ∃ n, Hid (EE.length = n) := ⟨_, hide rfl⟩
              go_wp2_with fail
              refine (putText_any X _ (by omega)).mono ?_
              rintro e w3 ⟨v3, rfl, hown3, hb3⟩
              rw [hEE.out] at hown3
              obtain ⟨g3, c3, rfl, hm3⟩ := mine_at hown3 hEp hsz
              have c0' : w3.cell? ⟨b, o + i, none⟩ = some (.string X) := by
                rw [hb3.cell (p := ⟨b, o + i, none⟩) (cell_lt c0)]; exact c0
              have HP3 := hide (HP.out.below hb3 (Nat.le_refl _))
              have HW3 := hide (HW.out.trans (hb3.mono hsz))
              have HM3 := hide hm3
              rw [hELe.out] at HM3 ⊢
              clear hown3 hb3 c0 HP HW hsz hm3
              have hsz3 := HW3.out.size
              go_wp2_with fail
              refine (rputText_any X _ (by omega)).mono ?_
              rintro e w4 ⟨v4, rfl, hown4, hb4⟩
              rw [hEE.out] at hown4
              obtain ⟨g4, c4, rfl, hm4⟩ := mine_at hown4 hEp hsz3
              have HP4 := hide (HP3.out.below hb4 (Nat.le_refl _))
              have HW4 := hide (HW3.out.trans (hb4.mono hsz3))
              have HM34 := hide (HM3.out.below hb4 (Nat.le_refl _))
              have HM4 := hide hm4
              clear hown4 hb4 c0' HP3 HW3 HM3 hm4 hsz3
              rw [hELe.out] at hEl HM4 ⊢
              go_wp2_with fail
              refine (same_any _ _ EL EL c3 c4 EE EE _ HM34.out.seg HM4.out.seg).mono ?_
              rintro e w5 ⟨rfl, q, rfl⟩
              rw [same_yes rfl]
              have PG := hide (HP4.out.drewN q).fst
              have PU := hide (HP4.out.drewN q).snd
              have PS := hide HP4.out.sep
              have HLG := hide HP4.out.len
              have HLU := hide HP4.out.len'
              have HSM := hide HP4.out.same
              replace HW4 := hide (below_drewN' HW4.out q)
              replace HM34 := hide (HM34.out.drewN q)
              replace HM4 := hide (HM4.out.drewN q)
              clear HP4 hEp
              generalize w4.drewN q = w5 at *
              have hsz5 := HW4.out.size
              have HOA := hide (PG.out.1.alloc (.cells #[.slice (some ⟨g3, 0, none⟩) EL c3] 23))
              rw [HLG.out] at HOA
              go_wp2_with (first
                | (at_builtin; refine wpList_append_own2 rfl _ _ 32 rfl w.heap.size 23 i0 (.slice none 0 0) 1 24 Try.underlying32 hi hz0 hz1 hz2 rfl (by decide) _ _ _ rfl HOA.out ⟨w5.heap.size, 0, none⟩ 1 1 [.slice (some ⟨g3, 0, none⟩) EL c3] rfl rfl ?c1 ?c2 (by omega) ?c3 ?c4 ?c5 ?_))
              case c1 =>
                intro j u hj
                match j, hj with
                | 0, hj => simp at hj; subst hj; simp [Addr.add]
              case c2 => intro u hu; simp at hu; subst hu; rfl
              case c3 => unfold maxLen; omega
              case c4 => omega
              case c5 => simp; omega
              intro w6v w6 hown' hgrow hat
              have HN6 := rows_push PG.out PU.out PS.out (p := ⟨g3, EL, c3, EE⟩) HM34.out (by rw [HLG.out]; exact hown') hgrow hat
              obtain ⟨hG6, hU6, hS6, hgr6⟩ := HN6
              have HM6 : Hid (Mine w6 w.heap.size g4 EL c4 EE) := by
                have hp : MineP w5 w.heap.size ⟨g4, EL, c4, EE⟩ := HM4.out
                exact Mine.of_block HM4.out (hgr6.block _ hp.lt (mine_apart hp PG.out.1))
              have HW6 : Hid (Below w.heap.size w w6) := Below.grown HW4.out hgr6 hsz5 (fun x hx => (PG.out.1.lt x hx).1)
              clear HOA hown' hgrow hat hgr6 PG PU PS HW4 HM34 HM4 hsz5
              have PG := hide hG6
              have PU := hide hU6
              have PS := hide hS6
              clear hG6 hU6 hS6
              obtain ⟨a6, c6, rfl⟩ := PG.out.shape
              have HLG6 : Hid ((gs ++ [(⟨g3, EL, c3, EE⟩ : PL)]).length = m2 + i + 1) := by show _ = _; rw [List.length_append, HLG.out]; rfl
              rw [HLG6.out] at PG PS ⊢
              have hsz6 := HW6.out.size
              have HOA := hide (PU.out.1.alloc (.cells #[.slice (some ⟨g4, 0, none⟩) EL c4] 23))
              rw [HLU.out] at HOA
              go_wp2_with (first
                | (at_builtin; refine wpList_append_own2 rfl _ _ 32 rfl w.heap.size 23 i0 (.slice none 0 0) 1 24 Try.underlying32 hi hz0 hz1 hz2 rfl (by decide) _ _ _ rfl HOA.out ⟨w6.heap.size, 0, none⟩ 1 1 [.slice (some ⟨g4, 0, none⟩) EL c4] rfl rfl ?c1 ?c2 (by omega) ?c3 ?c4 ?c5 ?_))
              case c1 =>
                intro j u hj
                match j, hj with
                | 0, hj => simp at hj; subst hj; simp [Addr.add]
              case c2 => intro u hu; simp at hu; subst hu; rfl
              case c3 => unfold maxLen; omega
              case c4 => omega
              case c5 => simp; omega
              intro w7v w7 hown' hgrow hat
              have HN7 := rows_push PU.out PG.out PS.out.symm (p := ⟨g4, EL, c4, EE⟩) HM6.out (by rw [HLU.out]; exact hown') hgrow hat
              obtain ⟨hU7, hG7, hS7, hgr7⟩ := HN7
              have HW7 : Hid (Below w.heap.size w w7) := Below.grown HW6.out hgr7 hsz6 (fun x hx => (PU.out.1.lt x hx).1)
              have HP7 : Hid (Pair w7 w.heap.size (.slice a6 (m2 + i + 1) c6) w7v (gs ++ [⟨g3, EL, c3, EE⟩]) (ws ++ [⟨g4, EL, c4, EE⟩]) (m2 + (i + 1))) :=
                ⟨hG7, hU7, HLG6.out, by rw [List.length_append, HLU.out]; rfl, same_snoc HLG.out HLU.out HSM.out _ _ rfl, hS7.symm⟩
              clear HOA hown' hgrow hat hgr7 PG PU PS HW6 HM6 hsz6 hG7 hU7 hS7 HLG HLU HLG6 HSM
              generalize gs ++ [(⟨g3, EL, c3, EE⟩ : PL)] = gs1 at *
              generalize ws ++ [(⟨g4, EL, c4, EE⟩ : PL)] = ws1 at *
              go_wp2
              go_roundw
              case rel => exact ⟨i + 1, gs1, ws1, by go_num, by omega, HP7, HW7⟩
              case measure => simp [intOf]; omega
            · have HB2 := HW
              clear HW hsz
              go_wp2_with fail
              refine (sameLists_any w.heap.size _ _ gs ws _ HP.out.fst HP.out.snd (by rw [HP.out.len, HP.out.len']) (fun t ht => HP.out.same t (by rw [HP.out.len] at ht; exact ht))).mono ?_
              rintro e w9 ⟨rfl, d, rfl⟩
              have HWD := hide (below_drewN' HB2.out d)
              go_wp2
              go_ret
              exact ⟨rfl, HWD.out⟩

theorem own0 : ownKnob Try.prog.godebug = none := by kernel_rfl
theorem cU : Try.prog.cellsOf 22 = 1 := by kernel_rfl
theorem cI : Try.prog.cellsOf 2 = 1 := by kernel_rfl

set_option maxRecDepth 100000 in
theorem contract (H : Type) (enc : TypeId × Value → H) (W : World) (base : Nat) (args : Array Value) (ds gs : List (DataW H)) (before : List MemPlace)
    (hval : ∀ (j : Nat) t v, Try.f5.params[j]? = some t → args[j]? = some v → Value.okWide Try.prog W .any base t v)
    (hW : DataW.Whole enc Try.prog Try.f5.params.toList Rows.wirePutsSpec.vars false W args.toList ds gs before)
    (hk : Rows.uptoSmall H (ds ++ gs) = true) :
    Calls Try.prog 5 args W fun e W' => ∃ v, e = .returned v ∧ Rows.wirePutsSpec.post enc Try.prog Try.f5 false true false false W args v W' := by
  have hW' := hW
  obtain ⟨p, q, hA0, hV, rfl, hfz, hnd⟩ := hW
  have hA : DataW.TrodAll enc Try.prog W 0 (fun _ => true) true Try.f5.params.toList args.toList ds p := hA0
  rw [Try.params5] at hA hval
  obtain ⟨v0, vs0, d0, ds0, p0, q0, hargs, rfl, rfl, h0, r0⟩ := trodAll_cons hA
  obtain ⟨v1, vs1, d1, ds1, p1, q1, rfl, rfl, rfl, h1, r1⟩ := trodAll_cons r0
  obtain ⟨v2, vs2, d2, ds2, p2, q2, rfl, rfl, rfl, h2, r2⟩ := trodAll_cons r1
  obtain ⟨rfl, rfl, rfl⟩ := trodAll_nil r2
  obtain rfl : args = #[v0, v1, v2] := by cases args; simp_all
  obtain ⟨rfl, rfl⟩ := trodVars_none hV
  have hup : Rows.uptoBulk d0 + (Rows.uptoBulk d1 + (Rows.uptoBulk d2 + 0)) ≤ 1048576 := of_decide_eq_true hk
  obtain ⟨a0, n0, cap0, rfl⟩ := okWide_slice Try.underlying29 (hval 0 29 v0 rfl rfl)
  have k0 := h0
  have lt0 : ∀ x ∈ p0, x.block < W.heap.size := by obtain ⟨m, hm⟩ := k0; exact DataW.trod_lt m _ _ _ hm
  obtain ⟨fuel0, hf0⟩ := h0
  obtain ⟨l0, hseg0, hn0⟩ := open_nums Try.underlying29 Try.underlying22 cU hf0
  obtain ⟨a1, n1, cap1, rfl⟩ := okWide_slice Try.underlying30 (hval 1 30 v1 rfl rfl)
  have k1 := h1
  have lt1 : ∀ x ∈ p1, x.block < W.heap.size := by obtain ⟨m, hm⟩ := k1; exact DataW.trod_lt m _ _ _ hm
  obtain ⟨fuel1, hf1⟩ := h1
  obtain ⟨l1, hseg1, hn1⟩ := open_nums Try.underlying30 Try.underlying2 cI hf1
  obtain ⟨a2, n2, cap2, rfl⟩ := okWide_slice Try.underlying31 (hval 2 31 v2 rfl rfl)
  have k2 := h2
  have lt2 : ∀ x ∈ p2, x.block < W.heap.size := by obtain ⟨m, hm⟩ := k2; exact DataW.trod_lt m _ _ _ hm
  obtain ⟨fuel2, hf2⟩ := h2
  obtain ⟨l2, hseg2, hn2⟩ := open_texts hf2 (by show Rows.uptoBulk d2 ≤ _; omega)
  have hn0' : n0 ≤ Rows.uptoBulk d0 := hn0
  have hn1' : n1 ≤ Rows.uptoBulk d1 := hn1
  have hn2' : n2 ≤ Rows.uptoBulk d2 := hn2
  clear hA0
  refine (walk a0 n0 cap0 l0 a1 n1 cap1 l1 a2 n2 cap2 l2 W hseg0 hseg1 hseg2 (by omega) (by omega) (by omega)).mono fun e W' ⟨he, bel⟩ => ?_
  subst he
  exact ⟨_, rfl, _, _, _, [], _, [], hW', trodAll_mk1 (shut_bool Try.underlying4 _), (trodAll_cons_mk (Below.trod laidOut (by kernel_rfl) (of_decide_eq_true (by kernel_rfl)) k0 bel lt0) (trodAll_cons_mk (Below.trod laidOut (by kernel_rfl) (of_decide_eq_true (by kernel_rfl)) k1 bel lt1) (trodAll_cons_mk (Below.trod laidOut (by kernel_rfl) (of_decide_eq_true (by kernel_rfl)) k2 bel lt2) trodAll_mk0))), rfl, bel.frame _, fun h => by cases h⟩

set_option maxRecDepth 100000 in
theorem lifted (os : Os) (started : os.Started) (H : Type) (enc : TypeId × Value → H) (F : Stop.Interp) :
    ReturnsInHanded {} Try.checked os 5 .any ((Rows.OpenSpec.upto Rows.wirePutsSpec).pre6 enc Try.prog Try.f5 Rows.wirePutsUptoRow.domain false) (((Rows.OpenSpec.upto Rows.wirePutsSpec).at F).post enc Try.prog Try.f5 false true false false) := by
  refine returnsInHanded_of_cond (C := Try.checked) (s := Rows.OpenSpec.upto Rows.wirePutsSpec) (k := Rows.uptoSmall) rfl own0 started (by kernel_rfl) Try.func5
    (OpenSpec.witness (enc := enc) (C := Try.checked) (s := Rows.OpenSpec.upto Rows.wirePutsSpec) (k := Rows.uptoSmall) rfl false ⟨#[], #[.slice none 0 0, .slice none 0 0, .slice none 0 0], []⟩ 8 (by kernel_rfl) (by kernel_rfl) (by kernel_rfl)
      (x := ([.nil, .nil, .nil], [], [])) (by kernel_rfl) rfl (by kernel_rfl)) ?_
  intro W base args ds gs before hval hW _ hk _
  exact contract H enc W base args ds gs before hval hW hk

end wirePuts
theorem wirePuts_proved : Rows.WirePutsUptoSaid :=
  OpenClaim.holds_of_cond 5 Try.f5 rfl rfl rfl rfl rfl rfl rfl ⟨rfl, rfl, rfl, rfl, rfl⟩ rfl rfl rfl rfl rfl (by kernel_rfl) Try.func5 (by kernel_rfl)
    (of_decide_eq_true (by kernel_rfl)) (by unfold Func.isWrapper; first | (rw [if_pos (by decide +kernel)]; kernel_rfl) | (rw [if_neg (by decide +kernel)]; exact ⟨rfl, rfl⟩))
    (fun os started H enc _ F => wirePuts.lifted os started H enc F)
#print axioms wirePuts_proved
end Go.Proofs.Ythikofggapkhgaa
