/- Proved: for every n, self, own attributes and votes QuorumFasts answers true: every Fast is the document's own. No condition. -/
import Derived.Test.YtmplipkdaplpnaaQLaw
import Derived.Test.YtmplipkdaplpnaaQMfas
import Derived.Test.YtmplipkdaplpnaaQAlF
namespace Go.Proofs.Ytmplipkdaplpnaa
open Go.ChangeShapes Go.WideShapes Go.ChangeAt Go.RowKit Go.Wire1

namespace quorumFasts
set_option maxHeartbeats 8000000 in
set_option maxRecDepth 100000 in
theorem walk (n slf seq : Int) (a : Option Addr) (k c : Nat) (l : List Int) (va : Option Addr) (N vc : Nat) (vs : List Vt) (w : World) (h : SegI w a k l) (hkc : k ≤ c) (hv : VRow w va N vs) :
    Calls Try.prog 5 #[.int .i64 n, .int .i64 slf, .agg #[.int .i64 seq, .slice a k c], .slice va N vc] w fun e w' => e = .returned (.bool true) ∧ Below w.heap.size w w' := by
  have FF : Hid (Fit (fastQ n slf seq l vs).2.2) := fast_fit n slf seq h.2.2.2 vs
  have hf3 : ∀ l : List Int, (∀ x ∈ l, x = 0 ∨ x = 2 ∨ x = 4) → Fit l := fun l h => fit_of (fun x hx => by rcases h x hx with h | h | h <;> omega)
  obtain ⟨U, hU⟩ : ∃ U, U = w.alloc (.cells #[.int .i64 seq, .slice a k c] 24) := ⟨_, rfl⟩
  have BU : Hid (Below w.heap.size w U) := by rw [hU]; exact (Below.refl _ w).alloc (Nat.le_refl _) _
  have QU : Hid (Blk U w.heap.size [.int .i64 seq, .slice a k c]) := by rw [hU]; exact blk_new w 24 [.int .i64 seq, .slice a k c]
  have HCP : Hid (∀ W, Below w.heap.size w W → Calls Try.prog 13 #[.int .i64 n, .int .i64 slf, .agg #[.int .i64 seq, .slice a k c], .slice va N vc] W fun e w' => AnsP W (fastQ n slf seq l vs) e w') := fun W hW => by
    have hV := hv.below hW (Nat.le_refl _)
    have := fast_any n slf seq a k c l va vc vs W (h.below hW (Nat.le_refl _)) hkc (by rw [hV.len]; exact hV.row) hV.ok
    rwa [hV.len] at this
  have HCM : Hid (∀ W, Below w.heap.size w W → Calls Try.prog 14 #[.int .i64 n, .int .i64 slf, .agg #[.int .i64 seq, .slice a k c], .slice va N vc] W fun e w' => AnsP W (fastQ n slf seq l vs) e w') := fun W hW => by
    have hV := hv.below hW (Nat.le_refl _)
    exact mfast_any n slf seq a k c l va N vc vs W (h.below hW (Nat.le_refl _)) hkc hV.row hV.ok
  clear h hkc hv
  generalize fastQ n slf seq l vs = rf at *
  obtain ⟨k1, s1, d1⟩ := rf
  have hkk1 : (k1 == k1) = true := by simp
  obtain ⟨W1, hW1⟩ : ∃ W1, W1 = (U.alloc (.cells #[.int .i64 0, .int .i64 0, .int .i64 0] 3)).alloc (.cells #[.int .i64 0, .int .i64 0, .int .i64 0] 3) := ⟨_, rfl⟩
  have B1 : Hid (Below U.heap.size U W1) := by rw [hW1]; exact ((Below.refl _ U).alloc (Nat.le_refl _) _).alloc (by simp) _
  have S0 : Hid (SegI W1 (some ⟨U.heap.size, 0, none⟩) 3 [0, 0, 0]) := by
    rw [hW1]
    exact (segI_lit [0, 0, 0] (hf3 _ (by simp)) (by unfold maxLen; decide) rfl rfl rfl).on _
  have S1 : Hid (SegI W1 (some ⟨U.heap.size + 1, 0, none⟩) 3 [0, 0, 0]) := by
    rw [hW1]
    exact segI_lit [0, 0, 0] (hf3 _ (by simp)) (by unfold maxLen; decide) rfl (by simp) rfl
  go_enter Try.func5, Try.ntmps5
  go_upto_region 1 with fail
  rw [← hU]
  clear hU
  go_wp2_with fail
  rw [← hW1]
  clear hW1
  refine (replyOf_any _ _ _ _ _ _).mono ?_
  rintro e w2 ⟨rfl, hb2⟩
  obtain ⟨v1, hv1⟩ : ∃ v1, v1 = rv 2 1 (some ⟨U.heap.size + 1, 0, none⟩) 3 3 [0, 0, 0] := ⟨_, rfl⟩
  obtain ⟨W5, hW5⟩ : ∃ W5, W5 = w2.alloc (.cells (vcs v1).toArray 33) := ⟨_, rfl⟩
  have B5 : Hid (Below W1.heap.size W1 W5) := by rw [hW5]; exact hb2.alloc hb2.size _
  have R5 : Hid (RowS W5 15 (some ⟨w2.heap.size, 0, none⟩) 1 [vcs v1]) := by rw [hW5]; exact row1_new w2 v1
  have BW : Hid (Below U.heap.size U W5) := B1.out.trans (B5.out.mono B1.out.size)
  have S05 : Hid (SegI W5 (some ⟨U.heap.size, 0, none⟩) 3 [0, 0, 0]) := S0.out.below B5.out (Nat.le_refl _)
  have OK1 : Hid (Vok W5 v1) := by subst hv1; exact ⟨S1.out.below B5.out (Nat.le_refl _), Nat.le_refl _, by show (-9223372036854775808 : Int) ≤ 2 ∧ (2 : Int) ≤ 9223372036854775807; omega⟩
  have HF : Hid (fastQ 3 0 1 [0, 0, 0] [v1] = (1, 1, [0, 0, 0])) := by subst hv1; show _ = _; kernel_rfl
  have hc := fast_any 3 0 1 (some ⟨U.heap.size, 0, none⟩) 3 3 [0, 0, 0] (some ⟨w2.heap.size, 0, none⟩) 1 [v1] W5 S05.out (Nat.le_refl _) R5.out (fun v hv => by
    simp only [List.mem_cons, List.not_mem_nil, or_false] at hv
    rw [hv]; exact OK1.out)
  rw [HF.out] at hc
  have HC := hide hc
  have HW5 : Hid (w2.alloc (.cells (vcs v1).toArray 33) = W5) := hW5.symm
  have HV1 : Hid (vcs (rv 2 1 (some ⟨U.heap.size + 1, 0, none⟩) 3 3 [0, 0, 0]) = vcs v1) := by show _ = _; rw [hv1]
  obtain ⟨i0, hii, hz0, hz1, hz2⟩ := info_parts infoVQ
  clear hb2 hW5 hc OK1 R5 S05 HF hv1
  go_wp2_with (first | (refine wpList_buildOne rfl 25 33 _ rfl 15 (vcs v1) rfl (by rw [← HV1.out]; rfl) i0 _ Try.underlying25 hii hz0 hz1 (by omega) (by omega) ?_; rw [HW5.out]))
  refine HC.out.mono ?_
  rintro e w6 ⟨ua, uc, rfl, ho6, hb6⟩
  dsimp only at ho6 ⊢
  have B6 : Hid (Below U.heap.size U w6) := BW.out.trans (hb6.mono BW.out.size)
  obtain ⟨X6, hX6⟩ : ∃ X6, X6 = w6.alloc (.cells [.int .i64 0, .slice none 0 0].toArray 24) := ⟨_, rfl⟩
  have ZX6 : Hid (Blk X6 w6.heap.size [.int .i64 0, .slice none 0 0]) := by rw [hX6]; exact blk_new w6 24 [.int .i64 0, .slice none 0 0]
  have TX6 := hide ZX6.out.there
  obtain ⟨Y6, hY6⟩ : ∃ Y6, Y6 = X6.setCells w6.heap.size 0 [.int .i64 1, .slice ua 3 uc] := ⟨_, rfl⟩
  have HP6 : Hid (Blk Y6 w6.heap.size [.int .i64 1, .slice ua 3 uc]) := by rw [hY6]; exact blk_cells ZX6.out rfl
  have HW6 : Hid (Below w6.heap.size w6 Y6) := by rw [hY6]; exact below_cells (Nat.le_refl _) _ _ _ (by rw [hX6]; exact (Below.refl _ _).alloc (Nat.le_refl _) _)
  have HS6 : Hid (SegI Y6 ua 3 [0, 0, 0]) := by
    obtain ⟨u', t', he, -, hseg⟩ := own_segI ho6 (hf3 _ (by simp))
    injection he with e1 e2 e3
    rw [e1]; exact hseg.below HW6.out (Nat.le_refl _)
  have HX6 : Hid (w6.alloc (.cells #[.int .i64 0, .slice none 0 0] 24) = X6) := hX6.symm
  have HY6 := hide hY6
  have BY6 : Hid (Below U.heap.size U Y6) := B6.out.trans (HW6.out.mono B6.out.size)
  obtain ⟨W8, hW8⟩ : ∃ W8, W8 = Y6.alloc (.cells #[.int .i64 0, .int .i64 0, .int .i64 0] 3) := ⟨_, rfl⟩
  have B8 : Hid (Below Y6.heap.size Y6 W8) := by rw [hW8]; exact (Below.refl _ _).alloc (Nat.le_refl _) _
  have S8 : Hid (SegI W8 (some ⟨Y6.heap.size, 0, none⟩) 3 [0, 0, 0]) := by
    rw [hW8]
    exact segI_lit [0, 0, 0] (hf3 _ (by simp)) (by unfold maxLen; decide) rfl rfl rfl
  have HP8 : Hid (Blk W8 w6.heap.size [.int .i64 1, .slice ua 3 uc]) := HP6.out.on B8.out
  have HS8 : Hid (SegI W8 ua 3 [0, 0, 0]) := HS6.out.below B8.out (Nat.le_refl _)
  have HW8 : Hid (Y6.alloc (.cells #[.int .i64 0, .int .i64 0, .int .i64 0] 3) = W8) := hW8.symm
  have hqw : U.heap.size ≤ w6.heap.size := B6.out.size
  clear hX6 hY6 hW8 hb6 ho6 HC HW5
  go_wp2_with (first | (rw [HX6.out]; refine wpList_store_mid rfl 24 _ _ rfl w6.heap.size 0 #[.int .i64 1, .slice ua 3 uc] rfl rfl TX6.out (by kernel_rfl) (by kernel_rfl) ?_; first | rw [← HY6.out] | (simp only [List.toList_toArray]; rw [← HY6.out])) | (refine wpList_load_mid rfl 24 _ rfl w6.heap.size 0 rfl [.int .i64 1, .slice ua 3 uc] _ HP6.out.range Try.underlying24 rfl (by kernel_rfl) ?_))
  rw [HW8.out]
  refine (sameAttr_any 1 1 _ _ _ _ _ _ [0, 0, 0] [0, 0, 0] _ HS8.out S8.out (b := true) rfl).mono ?_
  rintro e w9 ⟨rfl, hb9⟩
  have B9 : Hid (Below U.heap.size U w9) := (BY6.out.trans (B8.out.mono BY6.out.size)).trans (hb9.mono (Nat.le_trans BY6.out.size B8.out.size))
  have Q9 : Hid (Blk w9 w.heap.size [.int .i64 seq, .slice a k c]) := QU.out.on B9.out
  have W9 : Hid (Below w.heap.size w w9) := BU.out.trans (B9.out.mono BU.out.size)
  have HP9 : Hid (Blk w9 w6.heap.size [.int .i64 1, .slice ua 3 uc]) := HP8.out.on hb9
  have hU1 := QU.out.lt
  clear hb9 B8 BY6 HP6 HP8 HS8 S8 HW8 HX6 HY6
  go_upto_region 5 with fail
  go_wp2_with (first | (refine wpList_load_mid rfl 24 _ rfl w.heap.size 0 rfl [.int .i64 seq, .slice a k c] _ Q9.out.range Try.underlying24 rfl (by kernel_rfl) ?_))
  refine (HCP.out _ W9.out).mono ?_
  rintro e wa ⟨u1, t1, rfl, hoa, hba⟩
  dsimp only at hoa ⊢
  have HPa : Hid (Blk wa w6.heap.size [.int .i64 1, .slice ua 3 uc]) := HP9.out.on hba
  have Ta := hide HPa.out.there
  obtain ⟨Ya, hYa⟩ : ∃ Ya, Ya = wa.setCells w6.heap.size 0 [.int .i64 s1, .slice u1 d1.length t1] := ⟨_, rfl⟩
  have HPb : Hid (Blk Ya w6.heap.size [.int .i64 s1, .slice u1 d1.length t1]) := by rw [hYa]; exact blk_cells HPa.out rfl
  have Ba : Hid (Below U.heap.size U wa) := B9.out.trans (hba.mono B9.out.size)
  have BYa : Hid (Below U.heap.size U Ya) := by rw [hYa]; exact below_cells hqw _ _ _ Ba.out
  have HQa : Hid (w6.heap.size < w9.heap.size) := HP9.out.lt
  have HSa : Hid (SegI Ya u1 d1.length d1) := by
    have ho : Ya.ownsRow w9.heap.size 3 1 (.slice u1 d1.length t1) d1.length (d1.map (Value.int .i64)) := by
      refine World.ownsRow.kept (row := some w6.heap.size) hoa (by rw [hYa]; exact (grown_set _ _ _ _).trans (grown_set _ _ _ _)) (.inr fun e => ?_)
      have := hoa.lt _ e
      have := HQa.out
      omega
    obtain ⟨u', t', he, -, hseg⟩ := own_segI ho FF.out
    injection he with e1 e2 e3
    rw [e1]; exact hseg
  have HYa := hide hYa
  have Wa : Hid (Below w.heap.size w Ya) := BU.out.trans (BYa.out.mono BU.out.size)
  have Qa : Hid (Blk Ya w.heap.size [.int .i64 seq, .slice a k c]) := QU.out.on BYa.out
  clear hYa hba hoa HCP
  go_wp2_with (first | (refine wpList_store_mid rfl 24 _ _ rfl w6.heap.size 0 #[.int .i64 s1, .slice u1 d1.length t1] rfl rfl Ta.out (by kernel_rfl) (by kernel_rfl) ?_; first | rw [← HYa.out] | (simp only [List.toList_toArray]; rw [← HYa.out])) | (refine wpList_load_mid rfl 24 _ rfl w.heap.size 0 rfl [.int .i64 seq, .slice a k c] _ Qa.out.range Try.underlying24 rfl (by kernel_rfl) ?_))
  refine (HCM.out _ Wa.out).mono ?_
  rintro e wb ⟨u2, t2, rfl, hob, hbb⟩
  dsimp only at hob ⊢
  obtain ⟨X2, hX2⟩ : ∃ X2, X2 = wb.alloc (.cells [.int .i64 0, .slice none 0 0].toArray 24) := ⟨_, rfl⟩
  have ZX2 : Hid (Blk X2 wb.heap.size [.int .i64 0, .slice none 0 0]) := by rw [hX2]; exact blk_new wb 24 [.int .i64 0, .slice none 0 0]
  have TX2 := hide ZX2.out.there
  obtain ⟨Y2, hY2⟩ : ∃ Y2, Y2 = X2.setCells wb.heap.size 0 [.int .i64 s1, .slice u2 d1.length t2] := ⟨_, rfl⟩
  have HP2 : Hid (Blk Y2 wb.heap.size [.int .i64 s1, .slice u2 d1.length t2]) := by rw [hY2]; exact blk_cells ZX2.out rfl
  have HW2 : Hid (Below wb.heap.size wb Y2) := by rw [hY2]; exact below_cells (Nat.le_refl _) _ _ _ (by rw [hX2]; exact (Below.refl _ _).alloc (Nat.le_refl _) _)
  have HV2 : Hid (Below Ya.heap.size Ya Y2) := hbb.trans (HW2.out.mono hbb.size)
  have HS2 : Hid (SegI Y2 u2 d1.length d1) := by
    obtain ⟨u', t', he, -, hseg⟩ := own_segI hob FF.out
    injection he with e1 e2 e3
    rw [e1]; exact hseg.below HW2.out (Nat.le_refl _)
  have HSA2 : Hid (SegI Y2 u1 d1.length d1) := HSa.out.below HV2.out (Nat.le_refl _)
  have HPA2 : Hid (Blk Y2 w6.heap.size [.int .i64 s1, .slice u1 d1.length t1]) := HPb.out.on HV2.out
  have W2 : Hid (Below w.heap.size w Y2) := Wa.out.trans (HV2.out.mono Wa.out.size)
  have HX2 : Hid (wb.alloc (.cells #[.int .i64 0, .slice none 0 0] 24) = X2) := hX2.symm
  have HY2 := hide hY2
  clear hX2 hY2 hbb hob HCM
  go_wp2_with (first | (rw [HX2.out]; refine wpList_store_mid rfl 24 _ _ rfl wb.heap.size 0 #[.int .i64 s1, .slice u2 d1.length t2] rfl rfl TX2.out (by kernel_rfl) (by kernel_rfl) ?_; first | rw [← HY2.out] | (simp only [List.toList_toArray]; rw [← HY2.out])) | (refine wpList_load_mid rfl 24 _ rfl w6.heap.size 0 rfl [.int .i64 s1, .slice u1 d1.length t1] _ HPA2.out.range Try.underlying24 rfl (by kernel_rfl) ?_) | (refine wpList_load_mid rfl 24 _ rfl wb.heap.size 0 rfl [.int .i64 s1, .slice u2 d1.length t2] _ HP2.out.range Try.underlying24 rfl (by kernel_rfl) ?_))
  refine (sameAttr_any s1 s1 _ _ _ _ _ _ d1 d1 _ HSA2.out HS2.out (b := true) (by simp [sameB])).mono ?_
  rintro e w3 ⟨rfl, hb3⟩
  have W3 : Hid (Below w.heap.size w w3) := W2.out.trans (hb3.mono W2.out.size)
  clear hb3
  go_wp2
  go_ret
  exact ⟨rfl, W3.out⟩

set_option maxRecDepth 100000 in
/-- For every argument and every world. -/
theorem contract (H : Type) (enc : TypeId × Value → H) (W : World) (base : Nat) (args : Array Value) (ds gs : List (DataW H)) (before : List MemPlace)
    (hval : ∀ (j : Nat) t v, Try.f5.params[j]? = some t → args[j]? = some v → Value.okWide Try.prog W .any base t v)
    (hW : DataW.Whole enc Try.prog Try.f5.params.toList Rows.quorumFastsSpec.vars false W args.toList ds gs before)
    (hsz : (DataW.weightsEach Try.prog (Try.f5.params.toList ++ Rows.quorumFastsSpec.plain.varTypes Try.prog) (ds ++ gs)).all (· ≤ reachBytes) = true) :
    Calls Try.prog 5 args W fun e W' => ∃ v, e = .returned v ∧ Rows.quorumFastsSpec.post enc Try.prog Try.f5 false true false false W args v W' := by
  have hW' := hW
  obtain ⟨p, q, hA0, hV, rfl, hfz, hnd⟩ := hW
  have hA : DataW.TrodAll enc Try.prog W 0 (fun _ => true) true Try.f5.params.toList args.toList ds p := hA0
  rw [Try.params5] at hA hval hsz
  obtain ⟨v0, vs0, d0, ds0, p0, q0, hargs, rfl, rfl, h0, tr0⟩ := trodAll_cons hA
  obtain ⟨v1, vs1, d1, ds1, p1, q1, rfl, rfl, rfl, h1, tr1⟩ := trodAll_cons tr0
  obtain ⟨v2, vs2, d2, ds2, p2, q2, rfl, rfl, rfl, h2, tr2⟩ := trodAll_cons tr1
  obtain ⟨v3, vs3, d3, ds3, p3, q3, rfl, rfl, rfl, h3, tr3⟩ := trodAll_cons tr2
  obtain ⟨rfl, rfl, rfl⟩ := trodAll_nil tr3
  obtain rfl : args = #[v0, v1, v2, v3] := by cases args; simp_all
  obtain ⟨rfl, rfl⟩ := trodVars_none hV
  obtain ⟨y0, rfl, rfl, rfl, w0⟩ := open_int Try.underlying3 (hval 0 3 v0 rfl rfl) h0
  have b0 := bounds_i64 w0
  obtain ⟨y1, rfl, rfl, rfl, w1⟩ := open_int Try.underlying3 (hval 1 3 v1 rfl rfl) h1
  have b1 := bounds_i64 w1
  have k2 := h2
  have lt2 : ∀ x ∈ p2, x.block < W.heap.size := by obtain ⟨m, hm⟩ := k2; exact DataW.trod_lt m _ _ _ hm
  obtain ⟨sq2, a2, n2, cap2, l2, rfl, hseg2, hcap2, b2⟩ := qopen_attr (hval 2 24 v2 rfl rfl) h2
  obtain ⟨a3, n3, cap3, rfl⟩ := okWide_slice Try.underlying25 (hval 3 25 v3 rfl rfl)
  have k3 := h3
  have lt3 : ∀ x ∈ p3, x.block < W.heap.size := by obtain ⟨m, hm⟩ := k3; exact DataW.trod_lt m _ _ _ hm
  obtain ⟨fuel3, hf3⟩ := h3
  obtain ⟨l3, hseg3, hcap3⟩ := qopen_votes hf3 (fun m hm => of_decide_eq_true (List.all_eq_true.1 hsz _ (DataW.weights_mem_each (j := 3) rfl rfl m hm)))
  clear hA0
  refine (walk y0 y1 sq2 a2 n2 cap2 l2 a3 n3 cap3 l3 W hseg2 hcap2 hseg3).mono fun e W' ⟨he, bel⟩ => ?_
  subst he
  exact ⟨_, rfl, _, _, _, [], _, [], hW', trodAll_mk1 (shut_bool Try.underlying4 _), (trodAll_cons_mk (shut_int Try.underlying3 w0) (trodAll_cons_mk (shut_int Try.underlying3 w1) (trodAll_cons_mk (Below.trod vlaid (by kernel_rfl) (of_decide_eq_true (by kernel_rfl)) k2 bel lt2) (trodAll_cons_mk (Below.trod vlaid (by kernel_rfl) (of_decide_eq_true (by kernel_rfl)) k3 bel lt3) trodAll_mk0)))), rfl, bel.frame _, fun h => by cases h⟩

set_option maxRecDepth 100000 in
theorem lifted (os : Os) (started : os.Started) (H : Type) (enc : TypeId × Value → H) :
    ReturnsInHanded {} Try.checked os 5 .any (Rows.quorumFastsSpec.pre6 enc Try.prog Try.f5 Rows.quorumFastsRow.domain false) (Rows.quorumFastsSpec.post enc Try.prog Try.f5 false true false false) := by
  refine returnsInHanded_of_change_sized (C := Try.checked) vown started (by kernel_rfl) Try.func5
    (ChangeSpec.witness6 (enc := enc) (C := Try.checked) false ⟨#[], #[.int .i64 0, .int .i64 0, .agg #[.int .i64 0, .slice none 0 0], .slice none 0 0], []⟩ 8 (by kernel_rfl) (by kernel_rfl) (by kernel_rfl) (by kernel_rfl)) ?_
  intro W base args ds gs before hval hW _ hsz _
  exact contract H enc W base args ds gs before hval hW hsz

end quorumFasts
theorem quorumFasts_proved : Rows.QuorumFastsSaid :=
  OpenClaim.holds_of_wide 5 Try.f5 rfl rfl rfl rfl rfl rfl rfl ⟨rfl, rfl, rfl, rfl, rfl⟩ rfl rfl rfl rfl rfl (by kernel_rfl) Try.func5 (by kernel_rfl)
    (of_decide_eq_true (by kernel_rfl)) (by unfold Func.isWrapper; first | (rw [if_pos (by decide +kernel)]; kernel_rfl) | (rw [if_neg (by decide +kernel)]; exact ⟨rfl, rfl⟩))
    (fun os started H enc _ => quorumFasts.lifted os started H enc)
#print axioms quorumFasts_proved
end Go.Proofs.Ytmplipkdaplpnaa
