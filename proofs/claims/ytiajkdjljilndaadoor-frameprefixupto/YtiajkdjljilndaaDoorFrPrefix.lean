/- Proved: for every version, all bytes and all sizes of bulk at most 1048576 FramePrefix answers true: the payloads drained, sealed again, are just the bytes ahead of the place. Conditions: the table of sixteen of package crc and the five sentinels of package wire start as the program's text lays them (the card ties them). -/
import Derived.Test.YtiajkdjljilndaaDoorFrCh
import Derived.Test.YtiajkdjljilndaaDoorFrSealed
import Derived.Test.YtiajkdjljilndaaDoorArgs
import Derived.Test.YtiajkdjljilndaaDoorBulk
import Derived.Test.YtiajkdjljilndaaDoorFrLaid
import Derived.Test.YtiajkdjljilndaaDoorTie
import Derived.Test.YtiajkdjljilndaaDoorCards
import Derived.Deep.DeepHandedRow
import Derived.Deep.DeepWitnessRowRef
namespace Go.Proofs.YtiajkdjljilndaaDoor
open Go.ChangeShapes Go.WideShapes Go.ChangeAt Go.RowKit Go.Wire1 Go.Crc2 Go.Frm
namespace framePrefix

theorem rows_chs {w : World} {B : Nat} {a : Option Addr} {n cap : Nat} {gs : List PL} (h : LRows w B (.slice a n cap) gs) (hy : ∀ p ∈ gs.map PL.L, Byt p) : Chs w a gs.length (gs.map PL.L) := by
  refine ⟨by simp, h.len, fun hn => ?_⟩
  obtain ⟨b, e, _⟩ := h.at (i := 0) hn
  refine ⟨b, 0, e, fun j hj => ?_⟩
  obtain ⟨b', e', hc, hm⟩ := h.at (i := j) hj
  rw [e] at e'
  simp only [Option.some.injEq, Addr.mk.injEq, and_true] at e'
  subst e'
  have e2 : (gs.map PL.L).getD j [] = (gs.getD j plZ).L := by simp [List.getD, List.getElem?_map, List.getElem?_eq_getElem hj]
  have hmem : (gs.map PL.L).getD j [] ∈ gs.map PL.L := by rw [List.getD, List.getElem?_eq_getElem (by simpa using hj)]; exact List.getElem_mem _
  refine ⟨_, _, _, by rw [Nat.zero_add]; exact hc, by rw [e2]; exact hm.seg, hm.2.2.1, hm.2.2.2.1, hy _ hmem⟩

set_option maxHeartbeats 4000000 in
set_option maxRecDepth 100000 in
theorem walk_bad (y0 : Int) (hv : verB y0 = false) (sa : Option Addr) (n cap : Nat) (l : List Int) (ca : Option Addr) (cn ccap : Nat) (cl : List Int) (a : Nat → Addr) (w : World) (hs : Seg w sa n l) (hnc : n ≤ cap) (hc : cap ≤ maxLen) (hI : SegI w ca cn cl) (hcc : cn ≤ ccap) (hH : Hal w) (hE : Errs w a) :
    Calls Tryd.prog 5 #[.int .i64 y0, .slice sa n cap, .slice ca cn ccap] w fun e w' => e = .returned (.bool true) ∧ Below w.heap.size w w' := by
  have HAL := hide hH
  have HER := hide hE
  have HS := hide hs
  have HI := hide hI
  have hvv : y0 < 0 ∨ (¬ y0 < 0 ∧ 2 < y0) := by unfold verB at hv; simp at hv; omega
  have HV := hide hv
  clear hH hE hs hI hv
  rcases hvv with q1 | ⟨q1, q2⟩
  all_goals go_enter Tryd.func5, Tryd.ntmps5
  all_goals go_wp2_with fail
  all_goals refine (head_any a w HAL.out HER.out).mono ?_
  all_goals rintro r w1 ⟨rfl, hb1⟩
  all_goals have B1 := hide hb1
  all_goals clear hb1
  all_goals go_wp2_with fail
  all_goals refine (cut_any sa n cap l ca cn ccap cl w1 (HS.out.below B1.out (Nat.le_refl _)) hnc hc (HI.out.later B1.out) hcc).mono ?_
  all_goals rintro r w2 ⟨val, ps, rfl, ho, _, _, hb2⟩
  all_goals obtain ⟨va, vc, rfl⟩ := own_shape ho
  all_goals have B2 : Hid (Below w.heap.size w w2) := B1.out.trans (hb2.mono B1.out.size)
  all_goals clear ho hb2
  all_goals go_wp2_with fail
  all_goals refine (drain_ver y0 _ _ _ _ HV.out).mono ?_
  all_goals rintro r w3 ⟨rfl, rfl⟩
  all_goals go_wp2_with fail
  all_goals refine (num_any 2 _).mono ?_
  all_goals rintro r w4 ⟨rfl, rfl⟩
  all_goals go_wp2
  all_goals go_ret
  all_goals exact ⟨rfl, B2.out⟩

set_option maxHeartbeats 4000000 in
set_option maxRecDepth 100000 in
theorem walk_good (v : Nat) (hv : v ≤ 2) (sa : Option Addr) (n cap : Nat) (l : List Int) (ca : Option Addr) (cn ccap : Nat) (cl : List Int) (a : Nat → Addr) (w : World) (hs : Seg w sa n l) (hnc : n ≤ cap) (hc : cap ≤ maxLen) (hy : Byt l) (hI : SegI w ca cn cl) (hcc : cn ≤ ccap) (hn : n ≤ 1048576) (hH : Hal w) (hE : Errs w a) :
    Calls Tryd.prog 5 #[.int .i64 (v : Int), .slice sa n cap, .slice ca cn ccap] w fun e w' => e = .returned (.bool true) ∧ Below w.heap.size w w' := by
  have q1 : ¬ ((v : Int) < 0) := by omega
  have q2 : ¬ (2 < (v : Int)) := by omega
  have HAL := hide hH
  have HER := hide hE
  have HS := hide hs
  have HI := hide hI
  have HY := hide hy
  have hd := fun (W : World) ca cn ccap (ps : List (Nat × Nat)) (hp : Pcs 0 ps n) (h : Chs W ca cn (pieces l ps)) (h1 : Hal W) (h2 : Errs W a) => drain_any v hv ca cn ccap (pieces l ps) a W h (by rw [pieces_all hp hs.1, hs.1]; omega) h1 h2
  have hd1 : ∀ (W : World) ca cn ccap (ps : List (Nat × Nat)) (hp : Pcs 0 ps n) (h : Chs W ca cn (pieces l ps)) (h1 : Hal W) (h2 : Errs W a), Calls Tryd.prog 9 #[.int .i64 (v : Int), .slice ca cn ccap] W fun r w' => DrPost v l W r w' := by
    intro W ca cn ccap ps hp h h1 h2
    have := hd W ca cn ccap ps hp h h1 h2
    rwa [pieces_all hp hs.1] at this
  simp only [DrPost] at hd1
  obtain ⟨P, h, el, hp, hlk⟩ := drain_dec v l.length l (Nat.le_refl _) hy
  have hdv := drain_at v P h hp hlk
  rw [← el] at hdv
  simp only [hdv] at hd1
  have hby : ∀ p ∈ P, Byt p := joinF_byt (by rw [← el]; exact hy)
  have hll : (joinF v P).length + h.length = n := by rw [← hs.1, el, List.length_append]
  have htk : l.take (joinF v P).length = joinF v P := by rw [el]; exact List.take_left' rfl
  have hsd := fun (W : World) pa pcap (hc : Chs W pa P.length P) (h1 : Hal W) => sealed_any v hv pa P.length pcap P W hc hp (by omega) h1
  simp only [SdPost] at hsd
  have hte : (tailE v h = 0 ∧ (joinF v P).length = n) ∨ (tailE v h ≠ 0 ∧ (joinF v P).length ≠ n) := by
    cases h with
    | nil => exact .inl ⟨rfl, by simpa using hll⟩
    | cons x r =>
      refine .inr ⟨?_, by simp at hll; omega⟩
      unfold tailE
      rw [if_neg (by simp)]
      cases hk : Frm.look v (x :: r) with
      | short => simp
      | bad k e => exact (look_bad_e hk).1
      | whole f t => exact absurd hk (hlk f t)
  generalize tailE v h = te at *
  have hjn : (joinF v P).length ≤ n := by omega
  have htl : (joinF v P).length = (joinF v P).length := rfl
  generalize joinF v P = J at *
  obtain ⟨j, hj⟩ : ∃ j, J.length = j := ⟨_, rfl⟩
  rw [hj] at hjn hte htk
  simp only [hj] at hd1 hsd
  have HD := hide hd1
  have HSD := hide hsd
  have HBY := hide hby
  have HTK := hide htk
  have HJ := hide hj
  clear hd hd1 hH hE hs hI hy hdv hlk hsd hby hll htk htl hj el hp h
  rcases hte with ⟨rfl, hjn2⟩ | ⟨hte, hjn2⟩
  · obtain rfl : j = n := hjn2
    go_enter Tryd.func5, Tryd.ntmps5
    go_wp2_with fail
    refine (head_any a w HAL.out HER.out).mono ?_
    rintro r w1 ⟨rfl, hb1⟩
    have B1 := hide hb1
    clear hb1
    go_wp2_with fail
    refine (cut_any sa j cap l ca cn ccap cl w1 (HS.out.below B1.out (Nat.le_refl _)) hnc hc (HI.out.later B1.out) hcc).mono ?_
    rintro r w2 ⟨val, ps, rfl, ho, hps, _, hb2⟩
    obtain ⟨va, vc, rfl⟩ := own_shape ho
    have B2 : Hid (Below w.heap.size w w2) := B1.out.trans (hb2.mono B1.out.size)
    have CH := hide (chs_cut (HS.out.below B1.out (Nat.le_refl _)) hnc hc HY.out hb2 ho hps)
    have HPS := hide hps
    clear ho hb2 hps
    go_wp2_with fail
    refine (HD.out _ _ _ vc ps HPS.out CH.out (HAL.out.later B2.out) (HER.out.below B2.out (Nat.le_refl _))).mono ?_
    rintro r w3 ⟨val, ga, rfl, hRa, hga, _, hb3⟩
    obtain ⟨xa, xc, rfl⟩ := hRa.shape
    have B3 : Hid (Below w.heap.size w w3) := B2.out.trans (hb3.mono B2.out.size)
    have LA : Hid (Chs w3 xa ga.length P) := by rw [← hga]; exact rows_chs hRa (by rw [hga]; exact HBY.out)
    have EL : Hid (ga.length = P.length) := by rw [← hga]; show _ = _; simp
    rw [EL.out] at LA ⊢
    clear hRa hga hb3 EL CH HPS
    generalize P.length = N at *
    go_wp2_with fail
    refine (HSD.out w3 xa xc LA.out (HAL.out.later B3.out)).mono ?_
    rintro r w4 ⟨ga, gc, rfl, hO, hb4⟩
    have B4 : Hid (Below w.heap.size w w4) := B3.out.trans (hb4.mono B3.out.size)
    have SG := hide (own_segN hO)
    have SH : Hid (Seg w4 sa j (l.take j)) := by
      have := (HS.out.below B4.out (Nat.le_refl _)).cut (k := 0) (m := j) (a' := sa) (by omega) (fun _ b off e => by rw [e]; rfl)
      show Seg _ _ _ _
      simpa using this
    rw [HTK.out] at SH
    clear hO hb4
    go_wp2_with fail
    refine (same_bel ga sa j j gc cap J J w4 SG.out SH.out).mono ?_
    rintro r w5 ⟨rfl, hb5⟩
    rw [same_yes rfl]
    have B5 : Hid (Below w.heap.size w w5) := B4.out.trans (hb5.mono B4.out.size)
    clear hb5
    go_wp2_with fail
    refine (num_any 0 _).mono ?_
    rintro r w6 ⟨rfl, rfl⟩
    go_wp2
    go_ret
    exact ⟨by simp, B5.out⟩
  · have g1 : ((te : Int) == 0) = false := by rw [beq_eq_false_iff_ne]; omega
    have g2 : ((j : Int) == (n : Int)) = false := by rw [beq_eq_false_iff_ne]; omega
    clear hte
    go_enter Tryd.func5, Tryd.ntmps5
    go_wp2_with fail
    refine (head_any a w HAL.out HER.out).mono ?_
    rintro r w1 ⟨rfl, hb1⟩
    have B1 := hide hb1
    clear hb1
    go_wp2_with fail
    refine (cut_any sa n cap l ca cn ccap cl w1 (HS.out.below B1.out (Nat.le_refl _)) hnc hc (HI.out.later B1.out) hcc).mono ?_
    rintro r w2 ⟨val, ps, rfl, ho, hps, _, hb2⟩
    obtain ⟨va, vc, rfl⟩ := own_shape ho
    have B2 : Hid (Below w.heap.size w w2) := B1.out.trans (hb2.mono B1.out.size)
    have CH := hide (chs_cut (HS.out.below B1.out (Nat.le_refl _)) hnc hc HY.out hb2 ho hps)
    have HPS := hide hps
    clear ho hb2 hps
    go_wp2_with fail
    refine (HD.out _ _ _ vc ps HPS.out CH.out (HAL.out.later B2.out) (HER.out.below B2.out (Nat.le_refl _))).mono ?_
    rintro r w3 ⟨val, ga, rfl, hRa, hga, _, hb3⟩
    obtain ⟨xa, xc, rfl⟩ := hRa.shape
    have B3 : Hid (Below w.heap.size w w3) := B2.out.trans (hb3.mono B2.out.size)
    have LA : Hid (Chs w3 xa ga.length P) := by rw [← hga]; exact rows_chs hRa (by rw [hga]; exact HBY.out)
    have EL : Hid (ga.length = P.length) := by rw [← hga]; show _ = _; simp
    rw [EL.out] at LA ⊢
    clear hRa hga hb3 EL CH HPS
    generalize P.length = N at *
    go_wp2_with fail
    refine (HSD.out w3 xa xc LA.out (HAL.out.later B3.out)).mono ?_
    rintro r w4 ⟨ga, gc, rfl, hO, hb4⟩
    have B4 : Hid (Below w.heap.size w w4) := B3.out.trans (hb4.mono B3.out.size)
    have SG := hide (own_segN hO)
    have SH : Hid (Seg w4 sa j (l.take j)) := by
      have := (HS.out.below B4.out (Nat.le_refl _)).cut (k := 0) (m := j) (a' := sa) (by omega) (fun _ b off e => by rw [e]; rfl)
      show Seg _ _ _ _
      simpa using this
    rw [HTK.out] at SH
    clear hO hb4
    go_wp2_with fail
    refine (same_bel ga sa j j gc cap J J w4 SG.out SH.out).mono ?_
    rintro r w5 ⟨rfl, hb5⟩
    rw [same_yes rfl]
    have B5 : Hid (Below w.heap.size w w5) := B4.out.trans (hb5.mono B4.out.size)
    clear hb5
    go_wp2_with fail
    refine (num_any (te : Int) _).mono ?_
    rintro r w6 ⟨rfl, rfl⟩
    go_wp2
    go_ret
    exact ⟨by simp, B5.out⟩

theorem walk (y0 : Int) (sa : Option Addr) (n cap : Nat) (l : List Int) (ca : Option Addr) (cn ccap : Nat) (cl : List Int) (a : Nat → Addr) (w : World) (hs : Seg w sa n l) (hnc : n ≤ cap) (hc : cap ≤ maxLen) (hy : Byt l) (hI : SegI w ca cn cl) (hcc : cn ≤ ccap) (hn : n ≤ 1048576) (hH : Hal w) (hE : Errs w a) :
    Calls Tryd.prog 5 #[.int .i64 y0, .slice sa n cap, .slice ca cn ccap] w fun e w' => e = .returned (.bool true) ∧ Below w.heap.size w w' := by
  cases hv : verB y0 with
  | false => exact walk_bad y0 hv sa n cap l ca cn ccap cl a w hs hnc hc hI hcc hH hE
  | true =>
    have h0 : 0 ≤ y0 ∧ y0 ≤ 2 := by unfold verB at hv; simpa using hv
    obtain ⟨u, rfl⟩ := Int.eq_ofNat_of_zero_le h0.1
    exact walk_good u (by omega) sa n cap l ca cn ccap cl a w hs hnc hc hy hI hcc hn hH hE

set_option maxRecDepth 100000 in
/-- For every argument and every world. -/
theorem contract (H : Type) (enc : TypeId × Value → H) (W : World) (base : Nat) (args : Array Value) (ds gs : List (DataW H)) (before : List MemPlace)
    (hval : ∀ (j : Nat) t v, Tryd.f5.params[j]? = some t → args[j]? = some v → Value.okWide Tryd.prog W .any base t v)
    (hW : DataW.Whole enc Tryd.prog Tryd.f5.params.toList Rows.framePrefixSpec.vars false W args.toList ds gs before)
    (hsz : (DataW.weightsEach Tryd.prog (Tryd.f5.params.toList ++ (Rows.OpenSpec.upto Rows.framePrefixSpec).bare.plain.varTypes Tryd.prog) (ds ++ gs)).all (· ≤ reachBytes) = true)
    (hup : Rows.uptoSmall H (ds ++ gs) = true)
    (hL : laidMetH Tryd.prog Rows.framePrefixUptoRow.laid W) :
    Calls Tryd.prog 5 args W fun e W' => ∃ v, e = .returned v ∧ Rows.framePrefixSpec.post enc Tryd.prog Tryd.f5 false true false false W args v W' := by
  have hW' := hW
  obtain ⟨p, q, hA0, hV, rfl, hfz, hnd⟩ := hW
  have hA : DataW.TrodAll enc Tryd.prog W 0 (fun _ => true) true Tryd.f5.params.toList args.toList ds p := hA0
  rw [Tryd.params5] at hA hval hsz
  obtain ⟨v0, vs0, d0, ds0, p0, q0, hargs, rfl, rfl, h0, tr0⟩ := trodAll_cons hA
  obtain ⟨v1, vs1, d1, ds1, p1, q1, rfl, rfl, rfl, h1, tr1⟩ := trodAll_cons tr0
  obtain ⟨v2, vs2, d2, ds2, p2, q2, rfl, rfl, rfl, h2, tr2⟩ := trodAll_cons tr1
  obtain ⟨rfl, rfl, rfl⟩ := trodAll_nil tr2
  obtain rfl : args = #[v0, v1, v2] := by cases args; simp_all
  obtain ⟨rfl, rfl⟩ := trodVars_none hV
  obtain ⟨y0, rfl, rfl, rfl, w0⟩ := open_int Tryd.underlying3 (hval 0 3 v0 rfl rfl) h0
  have b0 := bounds_i64 w0
  obtain ⟨a1, n1, cap1, rfl⟩ := okWide_slice Tryd.underlying22 (hval 1 22 v1 rfl rfl)
  have k1 := h1
  have lt1 : ∀ x ∈ p1, x.block < W.heap.size := by obtain ⟨m, hm⟩ := k1; exact DataW.trod_lt m _ _ _ hm
  obtain ⟨fuel1, hf1⟩ := h1
  obtain ⟨l1, hseg1, hbyt1, hcap1, hdat1⟩ := open_bytes hf1
  obtain ⟨a2, n2, cap2, rfl⟩ := okWide_slice Tryd.underlying31 (hval 2 31 v2 rfl rfl)
  have k2 := h2
  have lt2 : ∀ x ∈ p2, x.block < W.heap.size := by obtain ⟨m, hm⟩ := k2; exact DataW.trod_lt m _ _ _ hm
  obtain ⟨fuel2, hf2⟩ := h2
  obtain ⟨l2, hseg2, hcap2, hdat2⟩ := open_ints hf2
  have hreach1 : cap1 ≤ 140737488351232 := by
    rcases hdat1 with ⟨_, _, h⟩ | ⟨elems, spare, hd, he, hc⟩
    · omega
    · have hs := sized_slice hsz (j := 1) (t := 22) (e := 5) (elems := elems) (spare := spare) rfl (by rw [show d1 = _ from hd]; rfl) Tryd.underlying22
      rw [bytes5] at hs
      simp only [reachBytes] at hs
      omega
  have hn1 : n1 ≤ 1048576 := by
    have hup' : Rows.uptoBulk _ + (Rows.uptoBulk d1 + (Rows.uptoBulk d2 + 0)) ≤ 1048576 := of_decide_eq_true hup
    rcases hdat1 with ⟨_, h, _⟩ | ⟨elems, spare, hd, he, _⟩
    · omega
    · have h1 := bulk_len elems
      have h2 : Rows.uptoBulk d1 = Rows.uptoBulkAll elems + Rows.uptoBulkAll spare + 1 := by rw [show d1 = _ from hd]; rfl
      omega
  have hE := errs_of_laid hL
  clear hA0
  obtain ⟨aa, haa⟩ := hE
  refine (walk y0 a1 n1 cap1 l1 a2 n2 cap2 l2 aa W hseg1 hcap1 (Nat.le_trans hreach1 (by unfold maxLen; omega)) hbyt1 hseg2 hcap2 hn1 (hal_of_laid hL) haa).mono fun e W' ⟨he, bel⟩ => ?_
  subst he
  exact ⟨_, rfl, _, _, _, [], _, [], hW', trodAll_mk1 (shut_bool Tryd.underlying4 _), (trodAll_cons_mk (shut_int Tryd.underlying3 w0) (trodAll_cons_mk (Below.trod laidOut (by kernel_rfl) (of_decide_eq_true (by kernel_rfl)) k1 bel lt1) (trodAll_cons_mk (Below.trod laidOut (by kernel_rfl) (of_decide_eq_true (by kernel_rfl)) k2 bel lt2) trodAll_mk0))), rfl, bel.frame _, fun h => by cases h⟩

theorem reads (os : Os) {H : Type} (enc : TypeId × Value → H) : ∃ places, DataW.whole enc Tryd.prog ((World.doorLaid Tryd.prog 400 os).forCall (fun _ _ => 0) ⟨#[], #[.int .i64 0, .slice none 0 0, .slice none 0 0], []⟩).memory Tryd.f5.params.toList Rows.framePrefixSpec.vars false (#[Value.int .i64 0, .slice none 0 0, .slice none 0 0] : Array Value).toList 8 = some ([.lit (.int .i64 0), .nil, .nil], [], places) :=
  ⟨[], by kernel_rfl⟩

set_option maxRecDepth 100000 in
theorem lifted (os : Os) (started : os.Started) (H : Type) (enc : TypeId × Value → H) (F : Stop.Interp) :
    ReturnsInHanded {} Tryd.checked os 5 .any ((Rows.OpenSpec.upto Rows.framePrefixSpec).preRow enc Tryd.prog Tryd.f5 Rows.framePrefixUptoRow.domain false Rows.framePrefixUptoRow.laid) (((Rows.OpenSpec.upto Rows.framePrefixSpec).at F).post enc Tryd.prog Tryd.f5 false true false false) := by
  obtain ⟨places, hx⟩ := reads os enc
  refine returnsInHanded_of_row (C := Tryd.checked) (s := (Rows.OpenSpec.upto Rows.framePrefixSpec)) own started (by kernel_rfl) Tryd.func5
    (witness_row_atRef (enc := enc) (C := Tryd.checked) false (World.doorLaid Tryd.prog 400 os) #[.int .i64 0, .slice none 0 0, .slice none 0 0] rfl (by kernel_rfl) (by kernel_rfl) (by kernel_rfl)
      (OpenSpec.preRow_of_cond 8 hx (by kernel_rfl) (fun k hk => by cases hk; kernel_rfl) (by kernel_rfl) (door_met os _))) ?_
  intro W base args ds gs before hval hW _ hcond hsz hL _ _
  exact contract H enc W base args ds gs before hval hW hsz (hcond _ rfl) hL

theorem said : Rows.FramePrefixUptoSaid :=
  OpenClaim.holds_of_cond 5 Tryd.f5 rfl rfl rfl rfl rfl rfl rfl ⟨rfl, rfl, rfl, rfl, rfl⟩ rfl rfl rfl rfl rfl (by kernel_rfl) Tryd.func5 (by kernel_rfl)
    (of_decide_eq_true (by kernel_rfl)) (by unfold Func.isWrapper; first | (rw [if_pos (by decide +kernel)]; kernel_rfl) | (rw [if_neg (by decide +kernel)]; exact ⟨rfl, rfl⟩))
    (fun os started H enc _ F => by rw [OpenClaim.pre_eq_preRow]; exact lifted os started H enc F)

theorem plain (f : FuncId) (fn : Func) (hf : Tryd.pinned.checked.prog.funcNamed "moot/mootlaw7.FramePrefix" = some f) (hfn : Tryd.pinned.checked.prog.funcs[f]? = some fn) :
    true = Tryd.pinned.checked.prog.looks [] ∧ ∀ (j : Nat) t, fn.params[j]? = some t → Tryd.pinned.checked.prog.wantsStandIn t = false := by
  obtain rfl : f = 5 := Option.some.inj ((show Tryd.prog.funcNamed "moot/mootlaw7.FramePrefix" = some 5 by kernel_rfl).symm.trans hf) |>.symm
  obtain rfl : fn = Tryd.f5 := (Option.some.inj (Tryd.func5.symm.trans hfn)).symm
  refine ⟨by kernel_rfl, fun j t ht => ?_⟩
  rw [Tryd.params5] at ht
  have hm : t ∈ [3, 22, 31] := by simpa using Array.mem_of_getElem? ht
  have hall : ([3, 22, 31].all fun u => !Tryd.prog.wantsStandIn u) = true := by kernel_rfl
  exact (show Tryd.prog.wantsStandIn t = false by simpa using List.all_eq_true.1 hall t hm)

end framePrefix
theorem framePrefix_proved : Rows.FramePrefixUptoCardSaid :=
  Claim7.holds_tied_plain_at .later [] _ _ _ _ framePrefix.said (fun _ h => by cases h) (by kernel_rfl) (fun _ h => by cases h) framePrefixUpto_row_tie rfl ⟨rfl, rfl⟩ (by kernel_rfl) rfl framePrefix.plain (by kernel_rfl)
#print axioms framePrefix_proved
end Go.Proofs.YtiajkdjljilndaaDoor
