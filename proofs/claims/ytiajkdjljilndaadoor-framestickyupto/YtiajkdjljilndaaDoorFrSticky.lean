/- Proved: for every version and all bytes of bulk at most 1048576 FrameSticky answers true: behind a fault nothing more is told, and without one what has been told stays the beginning. Conditions: the table of sixteen of package crc and the five sentinels of package wire start as the program's text lays them (the card ties them). -/
import Derived.Test.YtiajkdjljilndaaDoorFrHead
import Derived.Test.YtiajkdjljilndaaDoorArgs
import Derived.Test.YtiajkdjljilndaaDoorBulk
import Derived.Test.YtiajkdjljilndaaDoorFrLaid
import Derived.Test.YtiajkdjljilndaaDoorTie
import Derived.Test.YtiajkdjljilndaaDoorCards
import Derived.Deep.DeepHandedRow
import Derived.Deep.DeepWitnessRowRef
namespace Go.Proofs.YtiajkdjljilndaaDoor
open Go.ChangeShapes Go.WideShapes Go.ChangeAt Go.RowKit Go.Wire1 Go.Crc2 Go.Frm
namespace frameSticky

theorem lst_nil (w : World) (a : Option Addr) : Lst w a 0 [] := ⟨rfl, Nat.zero_le _, fun h => by omega⟩
theorem rows_cap {w : World} {B n cap : Nat} {a : Option Addr} {xs : List Value} {T : TypeId} (h : w.ownsRow B T 1 (.slice a n cap) n xs) : n ≤ cap ∧ cap ≤ maxLen := by
  rcases h.2 with ⟨e, h0⟩ | ⟨g, cap', cur, e, _, _, h1, h2, _⟩
  · cases e; exact ⟨Nat.le_refl _, by unfold maxLen; omega⟩
  · cases e; exact ⟨h1, h2⟩

set_option maxHeartbeats 4000000 in
set_option maxRecDepth 100000 in
theorem walk_bad (y0 : Int) (hv : verB y0 = false) (sa : Option Addr) (n cap : Nat) (sb : Option Addr) (m cbp : Nat) (a : Nat → Addr) (w : World) (hH : Hal w) (hE : Errs w a) :
    Calls Tryd.prog 3 #[.int .i64 y0, .slice sa n cap, .slice sb m cbp] w fun e w' => e = .returned (.bool true) ∧ Below w.heap.size w w' := by
  have HAL := hide hH
  have HER := hide hE
  clear hH hE
  go_enter Tryd.func3, Tryd.ntmps3
  go_wp2_with fail
  refine (head_any a w HAL.out HER.out).mono ?_
  rintro r w1 ⟨rfl, hb1⟩
  have B1 := hide hb1
  clear hb1
  go_wp2_with fail
  refine (drain_ver y0 _ _ _ _ hv).mono ?_
  rintro r w2 ⟨rfl, rfl⟩
  have B2 : Hid (Below w.heap.size w (w1.alloc (.cells #[.slice sa n cap] 22))) := B1.out.alloc B1.out.size _
  generalize w1.alloc (.cells #[.slice sa n cap] 22) = w2 at *
  go_wp2_with fail
  refine (drain_ver y0 _ _ _ _ hv).mono ?_
  rintro r w3 ⟨rfl, rfl⟩
  have B3 : Hid (Below w.heap.size w (w2.alloc (.cells #[.slice sa n cap, .slice sb m cbp] 22))) := B2.out.alloc B2.out.size _
  generalize w2.alloc (.cells #[.slice sa n cap, .slice sb m cbp] 22) = w3 at *
  go_wp2_with fail
  refine (num_any 2 _).mono ?_
  rintro r w4 ⟨rfl, rfl⟩
  go_wp2_with fail
  refine (num_any 2 _).mono ?_
  rintro r w4 ⟨rfl, rfl⟩
  go_wp2_with fail
  refine (sameLst_any none none 0 0 0 [] _ (lst_nil _ _) (lst_nil _ _)).mono ?_
  rintro r w4 ⟨rfl, q, rfl⟩
  have B4 := hide (below_drewN B3.out q)
  generalize w3.drewN q = w4 at *
  go_wp2
  go_ret
  exact ⟨rfl, B4.out⟩

set_option maxHeartbeats 4000000 in
set_option maxRecDepth 100000 in
theorem walk_good (v : Nat) (hv : v ≤ 2) (sa : Option Addr) (n cap : Nat) (l : List Int) (sb : Option Addr) (m cbp : Nat) (k : List Int) (a : Nat → Addr) (w : World) (hs : Seg w sa n l) (hnc : n ≤ cap) (hc : cap ≤ maxLen) (hy : Byt l) (ht : Seg w sb m k) (hmc : m ≤ cbp) (hc2 : cbp ≤ maxLen) (hz : Byt k) (hn : n ≤ 1048576) (hm : m ≤ 1048576) (hH : Hal w) (hE : Errs w a) :
    Calls Tryd.prog 3 #[.int .i64 (v : Int), .slice sa n cap, .slice sb m cbp] w fun e w' => e = .returned (.bool true) ∧ Below w.heap.size w w' := by
  have HAL := hide hH
  have HER := hide hE
  have CH1 : Hid (∀ W, Below w.heap.size w W → Chs (W.alloc (.cells #[.slice sa n cap] 22)) (some ⟨W.heap.size, 0, none⟩) 1 [l]) := fun W hb => chs_lit1 _ _ _ _ _ _ (hs.below hb (Nat.le_refl _)) hnc hc hy
  have CH2 : Hid (∀ W, Below w.heap.size w W → Chs (W.alloc (.cells #[.slice sa n cap, .slice sb m cbp] 22)) (some ⟨W.heap.size, 0, none⟩) 2 [l, k]) := fun W hb => chs_lit2 _ _ _ _ _ _ _ _ _ _ (hs.below hb (Nat.le_refl _)) hnc hc hy (ht.below hb (Nat.le_refl _)) hmc hc2 hz
  have hd1 := fun (W : World) ca ccap (h : Chs W ca 1 [l]) (h1 : Hal W) (h2 : Errs W a) => drain_any v hv ca 1 ccap [l] a W h (by simp [hs.1]; omega) h1 h2
  have hd2 := fun (W : World) ca ccap (h : Chs W ca 2 [l, k]) (h1 : Hal W) (h2 : Errs W a) => drain_any v hv ca 2 ccap [l, k] a W h (by simp [hs.1, ht.1]; omega) h1 h2
  have hst := drain_sticky v l k hy hz
  simp only [DrPost, List.flatten_cons, List.flatten_nil, List.append_nil] at hd1 hd2
  obtain ⟨P1, p1, e1, h1⟩ : ∃ P p e, drainF (l.length + 1) v l = (P, p, e) := ⟨_, _, _, rfl⟩
  obtain ⟨P2, p2, e2, h2⟩ : ∃ P p e, drainF ((l ++ k).length + 1) v (l ++ k) = (P, p, e) := ⟨_, _, _, rfl⟩
  simp only [h1, h2] at hd1 hd2 hst
  have HD1 := hide hd1
  have HD2 := hide hd2
  clear hd1 hd2 h1 h2 hs ht hy hz hH hE hnc hc hmc hc2 hn hm
  rcases hst with ⟨g1, g2, g3⟩ | ⟨g1, qs, g2, g3⟩
  · simp only [Prod.mk.injEq] at g3
    obtain ⟨rfl, rfl, rfl⟩ := g3
    have q1 : ((e2 : Int) != 0) = true := by rw [bne_iff_ne]; omega
    have q2 : ((e2 : Int) != 11) = true := by rw [bne_iff_ne]; omega
    clear g1 g2
    go_enter Tryd.func3, Tryd.ntmps3
    go_wp2_with fail
    refine (head_any a w HAL.out HER.out).mono ?_
    rintro r w1 ⟨rfl, hb1⟩
    have B1 := hide hb1
    clear hb1
    go_wp2_with fail
    refine (HD1.out _ _ 1 (CH1.out w1 B1.out) ((HAL.out.later B1.out).alloc _) ((HER.out.below B1.out (Nat.le_refl _)).below ((Below.refl _ _).alloc (Nat.le_refl _) _) (Nat.le_refl _))).mono ?_
    rintro r w2 ⟨va, ga, rfl, hRa, hga, _, hb2⟩
    obtain ⟨xa, xc, rfl⟩ := hRa.shape
    have B2 : Hid (Below w.heap.size w w2) := (B1.out.alloc B1.out.size _).trans (hb2.mono (by have := B1.out.size; simp; omega))
    have LA : Hid (Lst w2 xa ga.length P2) := by rw [← hga]; exact hRa.lst
    have EL : Hid (ga.length = P2.length) := by rw [← hga]; show _ = _; simp
    rw [EL.out] at LA ⊢
    clear hRa hga hb2 EL
    go_wp2_with fail
    refine (HD2.out _ _ 2 (CH2.out w2 B2.out) ((HAL.out.later B2.out).alloc _) ((HER.out.below B2.out (Nat.le_refl _)).below ((Below.refl _ _).alloc (Nat.le_refl _) _) (Nat.le_refl _))).mono ?_
    rintro r w3 ⟨vb, gb, rfl, hRb, hgb, _, hb3⟩
    obtain ⟨ya, yc, rfl⟩ := hRb.shape
    have B3 : Hid (Below w.heap.size w w3) := (B2.out.alloc B2.out.size _).trans (hb3.mono (by have := B2.out.size; simp; omega))
    have B23 : Hid (Below w2.heap.size w2 w3) := ((Below.refl _ _).alloc (Nat.le_refl _) _).trans (hb3.mono (by simp))
    have LB : Hid (Lst w3 ya gb.length P2) := by rw [← hgb]; exact hRb.lst
    have LA3 := hide (LA.out.below B23.out (Nat.le_refl _))
    have EL : Hid (gb.length = P2.length) := by rw [← hgb]; show _ = _; simp
    rw [EL.out] at LB ⊢
    clear hRb hgb hb3 EL LA B23
    generalize P2.length = N at *
    go_wp2_with fail
    refine (num_any (e2 : Int) _).mono ?_
    rintro r w4 ⟨rfl, rfl⟩
    go_wp2_with fail
    refine (num_any (e2 : Int) _).mono ?_
    rintro r w4 ⟨rfl, rfl⟩
    go_wp2_with fail
    refine (sameLst_any xa ya N xc yc P2 _ LA3.out LB.out).mono ?_
    rintro r w4 ⟨rfl, q, rfl⟩
    have B4 := hide (below_drewN B3.out q)
    generalize w3.drewN q = w4 at *
    go_wp2
    go_ret
    exact ⟨by simp, B4.out⟩
  · subst g2
    have q1 : ¬ (((P1 ++ qs).length : Int) < (P1.length : Int)) := by rw [List.length_append]; omega
    have q2 : ¬ ((p2 : Int) < (p1 : Int)) := by omega
    have q3 : P1.length ≤ (P1 ++ qs).length := by rw [List.length_append]; omega
    have q4 : (P1 ++ qs).take P1.length = P1 := by simp
    have Q4 := hide q4
    clear q4 g3
    rcases g1 with rfl | rfl
    all_goals go_enter Tryd.func3, Tryd.ntmps3
    all_goals go_wp2_with fail
    all_goals refine (head_any a w HAL.out HER.out).mono ?_
    all_goals rintro r w1 ⟨rfl, hb1⟩
    all_goals have B1 := hide hb1
    all_goals clear hb1
    all_goals go_wp2_with fail
    all_goals refine (HD1.out _ _ 1 (CH1.out w1 B1.out) ((HAL.out.later B1.out).alloc _) ((HER.out.below B1.out (Nat.le_refl _)).below ((Below.refl _ _).alloc (Nat.le_refl _) _) (Nat.le_refl _))).mono ?_
    all_goals rintro r w2 ⟨va, ga, rfl, hRa, hga, _, hb2⟩
    all_goals obtain ⟨xa, xc, rfl⟩ := hRa.shape
    all_goals have B2 : Hid (Below w.heap.size w w2) := (B1.out.alloc B1.out.size _).trans (hb2.mono (by have := B1.out.size; simp; omega))
    all_goals have LA : Hid (Lst w2 xa ga.length P1) := by rw [← hga]; exact hRa.lst
    all_goals have EL : Hid (ga.length = P1.length) := by rw [← hga]; show _ = _; simp
    all_goals rw [EL.out] at LA ⊢
    all_goals clear hRa hga hb2 EL
    all_goals go_wp2_with fail
    all_goals refine (HD2.out _ _ 2 (CH2.out w2 B2.out) ((HAL.out.later B2.out).alloc _) ((HER.out.below B2.out (Nat.le_refl _)).below ((Below.refl _ _).alloc (Nat.le_refl _) _) (Nat.le_refl _))).mono ?_
    all_goals rintro r w3 ⟨vb, gb, rfl, hRb, hgb, _, hb3⟩
    all_goals obtain ⟨ya, yc, rfl⟩ := hRb.shape
    all_goals have B3 : Hid (Below w.heap.size w w3) := (B2.out.alloc B2.out.size _).trans (hb3.mono (by have := B2.out.size; simp; omega))
    all_goals have B23 : Hid (Below w2.heap.size w2 w3) := ((Below.refl _ _).alloc (Nat.le_refl _) _).trans (hb3.mono (by simp))
    all_goals have LB : Hid (Lst w3 ya gb.length (P1 ++ qs)) := by rw [← hgb]; exact hRb.lst
    all_goals have hyc := rows_cap hRb.1
    all_goals have LA3 := hide (LA.out.below B23.out (Nat.le_refl _))
    all_goals have EL : Hid (gb.length = (P1 ++ qs).length) := by rw [← hgb]; show _ = _; simp
    all_goals rw [EL.out] at LB hyc ⊢
    all_goals have LF := hide (LB.out.first q3)
    all_goals rw [Q4.out] at LF
    all_goals unfold maxLen at hyc
    all_goals clear hRb hgb hb3 EL LA B23 LB Q4
    all_goals generalize (P1 ++ qs).length = N2 at *
    all_goals generalize P1.length = N at *
    · go_wp2_with fail
      refine (num_any 0 _).mono ?_
      rintro r w4 ⟨rfl, rfl⟩
      go_wp2_with fail
      refine (sameLst_any xa ya N xc yc P1 _ LA3.out LF.out).mono ?_
      rintro r w4 ⟨rfl, q, rfl⟩
      have B4 := hide (below_drewN B3.out q)
      generalize w3.drewN q = w4 at *
      go_wp2
      go_ret
      exact ⟨rfl, B4.out⟩
    · go_wp2_with fail
      refine (num_any 11 _).mono ?_
      rintro r w4 ⟨rfl, rfl⟩
      go_wp2_with fail
      refine (num_any 11 _).mono ?_
      rintro r w4 ⟨rfl, rfl⟩
      go_wp2_with fail
      refine (sameLst_any xa ya N xc yc P1 _ LA3.out LF.out).mono ?_
      rintro r w4 ⟨rfl, q, rfl⟩
      have B4 := hide (below_drewN B3.out q)
      generalize w3.drewN q = w4 at *
      go_wp2
      go_ret
      exact ⟨rfl, B4.out⟩

theorem walk (y0 : Int) (sa : Option Addr) (n cap : Nat) (l : List Int) (sb : Option Addr) (m cbp : Nat) (k : List Int) (a : Nat → Addr) (w : World) (hs : Seg w sa n l) (hnc : n ≤ cap) (hc : cap ≤ maxLen) (hy : Byt l) (ht : Seg w sb m k) (hmc : m ≤ cbp) (hc2 : cbp ≤ maxLen) (hz : Byt k) (hn : n ≤ 1048576) (hm : m ≤ 1048576) (hH : Hal w) (hE : Errs w a) :
    Calls Tryd.prog 3 #[.int .i64 y0, .slice sa n cap, .slice sb m cbp] w fun e w' => e = .returned (.bool true) ∧ Below w.heap.size w w' := by
  cases hv : verB y0 with
  | false => exact walk_bad y0 hv sa n cap sb m cbp a w hH hE
  | true =>
    have h0 : 0 ≤ y0 ∧ y0 ≤ 2 := by unfold verB at hv; simpa using hv
    obtain ⟨u, rfl⟩ := Int.eq_ofNat_of_zero_le h0.1
    exact walk_good u (by omega) sa n cap l sb m cbp k a w hs hnc hc hy ht hmc hc2 hz hn hm hH hE

set_option maxRecDepth 100000 in
/-- For every argument and every world. -/
theorem contract (H : Type) (enc : TypeId × Value → H) (W : World) (base : Nat) (args : Array Value) (ds gs : List (DataW H)) (before : List MemPlace)
    (hval : ∀ (j : Nat) t v, Tryd.f3.params[j]? = some t → args[j]? = some v → Value.okWide Tryd.prog W .any base t v)
    (hW : DataW.Whole enc Tryd.prog Tryd.f3.params.toList Rows.frameStickySpec.vars false W args.toList ds gs before)
    (hsz : (DataW.weightsEach Tryd.prog (Tryd.f3.params.toList ++ (Rows.OpenSpec.upto Rows.frameStickySpec).bare.plain.varTypes Tryd.prog) (ds ++ gs)).all (· ≤ reachBytes) = true)
    (hup : Rows.uptoSmall H (ds ++ gs) = true)
    (hL : laidMetH Tryd.prog Rows.frameStickyUptoRow.laid W) :
    Calls Tryd.prog 3 args W fun e W' => ∃ v, e = .returned v ∧ Rows.frameStickySpec.post enc Tryd.prog Tryd.f3 false true false false W args v W' := by
  have hW' := hW
  obtain ⟨p, q, hA0, hV, rfl, hfz, hnd⟩ := hW
  have hA : DataW.TrodAll enc Tryd.prog W 0 (fun _ => true) true Tryd.f3.params.toList args.toList ds p := hA0
  rw [Tryd.params3] at hA hval hsz
  obtain ⟨v0, vs0, d0, ds0, p0, q0, hargs, rfl, rfl, h0, tr0⟩ := trodAll_cons hA
  obtain ⟨v1, vs1, d1, ds1, p1, q1, rfl, rfl, rfl, h1, tr1⟩ := trodAll_cons tr0
  obtain ⟨v2, vs2, d2, ds2, p2, q2, rfl, rfl, rfl, h2, tr2⟩ := trodAll_cons tr1
  obtain ⟨rfl, rfl, rfl⟩ := trodAll_nil tr2
  obtain rfl : args = #[v0, v1, v2] := by cases args; simp_all
  obtain ⟨rfl, rfl⟩ := trodVars_none hV
  obtain ⟨y0, rfl, rfl, rfl, w0⟩ := open_int Tryd.underlying3 (hval 0 3 v0 rfl rfl) h0
  have b0 := bounds_i64 w0
  obtain ⟨a1, n1, cap1, rfl⟩ := okWide_slice Tryd.underlying22 (hval 1 22 v1 rfl rfl)
  have k1 := h1
  have lt1 : ∀ x ∈ p1, x.block < W.heap.size := by obtain ⟨m, hm⟩ := k1; exact DataW.trod_lt m _ _ _ hm
  obtain ⟨fuel1, hf1⟩ := h1
  obtain ⟨l1, hseg1, hbyt1, hcap1, hdat1⟩ := open_bytes hf1
  obtain ⟨a2, n2, cap2, rfl⟩ := okWide_slice Tryd.underlying22 (hval 2 22 v2 rfl rfl)
  have k2 := h2
  have lt2 : ∀ x ∈ p2, x.block < W.heap.size := by obtain ⟨m, hm⟩ := k2; exact DataW.trod_lt m _ _ _ hm
  obtain ⟨fuel2, hf2⟩ := h2
  obtain ⟨l2, hseg2, hbyt2, hcap2, hdat2⟩ := open_bytes hf2
  have hreach1 : cap1 ≤ 140737488351232 := by
    rcases hdat1 with ⟨_, _, h⟩ | ⟨elems, spare, hd, he, hc⟩
    · omega
    · have hs := sized_slice hsz (j := 1) (t := 22) (e := 5) (elems := elems) (spare := spare) rfl (by rw [show d1 = _ from hd]; rfl) Tryd.underlying22
      rw [bytes5] at hs
      simp only [reachBytes] at hs
      omega
  have hn1 : n1 ≤ 1048576 := by
    have hup' : Rows.uptoBulk _ + (Rows.uptoBulk d1 + (Rows.uptoBulk d2 + 0)) ≤ 1048576 := of_decide_eq_true hup
    rcases hdat1 with ⟨_, h, _⟩ | ⟨elems, spare, hd, he, _⟩
    · omega
    · have h1 := bulk_len elems
      have h2 : Rows.uptoBulk d1 = Rows.uptoBulkAll elems + Rows.uptoBulkAll spare + 1 := by rw [show d1 = _ from hd]; rfl
      omega
  have hreach2 : cap2 ≤ 140737488351232 := by
    rcases hdat2 with ⟨_, _, h⟩ | ⟨elems, spare, hd, he, hc⟩
    · omega
    · have hs := sized_slice hsz (j := 2) (t := 22) (e := 5) (elems := elems) (spare := spare) rfl (by rw [show d2 = _ from hd]; rfl) Tryd.underlying22
      rw [bytes5] at hs
      simp only [reachBytes] at hs
      omega
  have hn2 : n2 ≤ 1048576 := by
    have hup' : Rows.uptoBulk _ + (Rows.uptoBulk d1 + (Rows.uptoBulk d2 + 0)) ≤ 1048576 := of_decide_eq_true hup
    rcases hdat2 with ⟨_, h, _⟩ | ⟨elems, spare, hd, he, _⟩
    · omega
    · have h1 := bulk_len elems
      have h2 : Rows.uptoBulk d2 = Rows.uptoBulkAll elems + Rows.uptoBulkAll spare + 1 := by rw [show d2 = _ from hd]; rfl
      omega
  have hE := errs_of_laid hL
  clear hA0
  obtain ⟨aa, haa⟩ := hE
  refine (walk y0 a1 n1 cap1 l1 a2 n2 cap2 l2 aa W hseg1 hcap1 (Nat.le_trans hreach1 (by unfold maxLen; omega)) hbyt1 hseg2 hcap2 (Nat.le_trans hreach2 (by unfold maxLen; omega)) hbyt2 hn1 hn2 (hal_of_laid hL) haa).mono fun e W' ⟨he, bel⟩ => ?_
  subst he
  exact ⟨_, rfl, _, _, _, [], _, [], hW', trodAll_mk1 (shut_bool Tryd.underlying4 _), (trodAll_cons_mk (shut_int Tryd.underlying3 w0) (trodAll_cons_mk (Below.trod laidOut (by kernel_rfl) (of_decide_eq_true (by kernel_rfl)) k1 bel lt1) (trodAll_cons_mk (Below.trod laidOut (by kernel_rfl) (of_decide_eq_true (by kernel_rfl)) k2 bel lt2) trodAll_mk0))), rfl, bel.frame _, fun h => by cases h⟩

theorem reads (os : Os) {H : Type} (enc : TypeId × Value → H) : ∃ places, DataW.whole enc Tryd.prog ((World.doorLaid Tryd.prog 400 os).forCall (fun _ _ => 0) ⟨#[], #[.int .i64 0, .slice none 0 0, .slice none 0 0], []⟩).memory Tryd.f3.params.toList Rows.frameStickySpec.vars false (#[Value.int .i64 0, .slice none 0 0, .slice none 0 0] : Array Value).toList 8 = some ([.lit (.int .i64 0), .nil, .nil], [], places) :=
  ⟨[], by kernel_rfl⟩

set_option maxRecDepth 100000 in
theorem lifted (os : Os) (started : os.Started) (H : Type) (enc : TypeId × Value → H) (F : Stop.Interp) :
    ReturnsInHanded {} Tryd.checked os 3 .any ((Rows.OpenSpec.upto Rows.frameStickySpec).preRow enc Tryd.prog Tryd.f3 Rows.frameStickyUptoRow.domain false Rows.frameStickyUptoRow.laid) (((Rows.OpenSpec.upto Rows.frameStickySpec).at F).post enc Tryd.prog Tryd.f3 false true false false) := by
  obtain ⟨places, hx⟩ := reads os enc
  refine returnsInHanded_of_row (C := Tryd.checked) (s := (Rows.OpenSpec.upto Rows.frameStickySpec)) own started (by kernel_rfl) Tryd.func3
    (witness_row_atRef (enc := enc) (C := Tryd.checked) false (World.doorLaid Tryd.prog 400 os) #[.int .i64 0, .slice none 0 0, .slice none 0 0] rfl (by kernel_rfl) (by kernel_rfl) (by kernel_rfl)
      (OpenSpec.preRow_of_cond 8 hx (by kernel_rfl) (fun k hk => by cases hk; kernel_rfl) (by kernel_rfl) (door_met os _))) ?_
  intro W base args ds gs before hval hW _ hcond hsz hL _ _
  exact contract H enc W base args ds gs before hval hW hsz (hcond _ rfl) hL

theorem said : Rows.FrameStickyUptoSaid :=
  OpenClaim.holds_of_cond 3 Tryd.f3 rfl rfl rfl rfl rfl rfl rfl ⟨rfl, rfl, rfl, rfl, rfl⟩ rfl rfl rfl rfl rfl (by kernel_rfl) Tryd.func3 (by kernel_rfl)
    (of_decide_eq_true (by kernel_rfl)) (by unfold Func.isWrapper; first | (rw [if_pos (by decide +kernel)]; kernel_rfl) | (rw [if_neg (by decide +kernel)]; exact ⟨rfl, rfl⟩))
    (fun os started H enc _ F => by rw [OpenClaim.pre_eq_preRow]; exact lifted os started H enc F)

theorem plain (f : FuncId) (fn : Func) (hf : Tryd.pinned.checked.prog.funcNamed "moot/mootlaw7.FrameSticky" = some f) (hfn : Tryd.pinned.checked.prog.funcs[f]? = some fn) :
    true = Tryd.pinned.checked.prog.looks [] ∧ ∀ (j : Nat) t, fn.params[j]? = some t → Tryd.pinned.checked.prog.wantsStandIn t = false := by
  obtain rfl : f = 3 := Option.some.inj ((show Tryd.prog.funcNamed "moot/mootlaw7.FrameSticky" = some 3 by kernel_rfl).symm.trans hf) |>.symm
  obtain rfl : fn = Tryd.f3 := (Option.some.inj (Tryd.func3.symm.trans hfn)).symm
  refine ⟨by kernel_rfl, fun j t ht => ?_⟩
  rw [Tryd.params3] at ht
  have hm : t ∈ [3, 22, 22] := by simpa using Array.mem_of_getElem? ht
  have hall : ([3, 22, 22].all fun u => !Tryd.prog.wantsStandIn u) = true := by kernel_rfl
  exact (show Tryd.prog.wantsStandIn t = false by simpa using List.all_eq_true.1 hall t hm)

end frameSticky
theorem frameSticky_proved : Rows.FrameStickyUptoCardSaid :=
  Claim7.holds_tied_plain_at .later [] _ _ _ _ frameSticky.said (fun _ h => by cases h) (by kernel_rfl) (fun _ h => by cases h) frameStickyUpto_row_tie rfl ⟨rfl, rfl⟩ (by kernel_rfl) rfl frameSticky.plain (by kernel_rfl)
#print axioms frameSticky_proved
end Go.Proofs.YtiajkdjljilndaaDoor
