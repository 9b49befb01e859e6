/- Proved: for every script DiskBounds answers true: a disk takes what it has room for, whole, and else nothing of it. No condition. -/
import Derived.Test.YtbgahocmabiaeaaDkShow
import Derived.Test.YtbgahocmabiaeaaDkArgs
namespace Go.Proofs.Ytbgahocmabiaeaa
open Go.ChangeShapes Go.WideShapes Go.ChangeAt Go.RowKit Go.Wire1
namespace diskBounds

theorem seg_cells9 {w : World} {ad : Addr} {n : Nat} {bs : List Int} (hs : Seg w (some ad) n bs) : ∀ j u, (bs.map (Value.int .u8))[j]? = some u → w.cell? (ad.add j) = some u := fun j u hj => by
  have hjl : j < bs.length := by
    rcases Nat.lt_or_ge j bs.length with h | h
    · exact h
    · simp [List.getElem?_eq_none (show (bs.map (Value.int .u8)).length ≤ j by simpa using h)] at hj
  obtain ⟨b2, off, e, hc⟩ := hs.2.2 (by rw [← hs.1]; omega)
  cases e
  have hcj := hc j (by rw [← hs.1]; exact hjl)
  rw [add_at, hcj]
  simp [List.getElem?_eq_getElem hjl] at hj
  subst hj
  simp [List.getElem?_eq_getElem hjl]

set_option maxHeartbeats 4000000 in
set_option maxRecDepth 100000 in
theorem walk (a : Option Addr) (n cap : Nat) (ops : List OpD) (w : World) (hO : OSeg w a n ops) :
    Calls Try.prog 6 #[.slice a n cap] w fun e w' => e = .returned (.bool true) ∧ Below w.heap.size w w' := by
  obtain ⟨i0, hi0, hz0, hz1, hz2⟩ := info_parts Try.info5
  have HO := hide hO
  have hn63 : n ≤ 2199023255552 := by have := hO.top; omega
  clear hO
  go_enter Try.func6, Try.ntmps6
  go_wp2_with fail
  refine (abc_any _ w.heap.size (Nat.le_refl _)).mono ?_
  rintro e w1 ⟨b, pv, rfl, hbl, d1, hb1, _⟩
  have D1 := hide d1
  have B1 := hide hb1
  clear d1 hb1 hbl
  go_wp2
  go_loopw [4] (fun iv wr => ∃ (i : Nat) (pv : Value) (l : List Int) (m : Nat), iv = .int .i64 (i : Int) ∧ i ≤ n ∧ Hid (Dsk 0 wr b pv l m w.heap.size) ∧ Hid (Below w.heap.size w wr)) (fun iv _ => n - (intOf iv).toNat)
  case atStart => exact ⟨0, _, _, _, rfl, Nat.zero_le _, D1, B1⟩
  case round =>
    clear D1 B1
    obtain ⟨i, pv, l, m, rfl, hi, HD, HB⟩ := hrel
    by_cases hlt : i < n
    · obtain ⟨ab, ao, rfl, hat⟩ := HO.out.at_ (by omega)
      have hml : m ≤ l.length := HD.out.le
      have htp : l.length ≤ 4194304 := HD.out.top
      go_wp2_with fail
      refine (look_any _ b pv l m _ HD.out).mono ?_
      rintro e w1 ⟨v, rfl, hown, hb1⟩
      have hvl := hide (fun k hk => (hown.lt k hk).1)
      have OWN := hide hown
      have HZ01 : Hid (wr.heap.size ≤ w1.heap.size) := hb1.size
      obtain ⟨va, vc, rfl, _, _, sg⟩ := seg_own hown
      have DL := hide (HD.out.later hb1)
      have BL := hide (HB.out.trans (hb1.mono HB.out.size))
      have SV := hide sg
      clear hown hb1 sg
      have AT := (hat i hlt).below BL.out (Nat.le_refl _)
      have KO := hide ((HO.out.ok i hlt).below BL.out (Nat.le_refl _))
      obtain ⟨o, ho⟩ : ∃ o, o = ops.getD i opdZ := ⟨_, rfl⟩
      rw [← ho] at AT KO
      obtain ⟨k0, k1, k2, k3, k4, k5⟩ := AT
      have HOE := hide ho
      clear ho
      obtain ⟨ln, hln⟩ : ∃ ln, l.length = ln := ⟨_, rfl⟩
      rw [hln] at hml htp SV OWN hvl ⊢
      have HLN := hide hln
      clear hln
      obtain ⟨kd, sc, ai, xi, ti, da, dn, dc, dl⟩ := o
      simp only at k0 k1 k2 k3 k4 k5
      have q1 : ¬ (4194304 < (ln : Int)) := by omega
      have q2 : ¬ ((m : Int) < 0) := by omega
      have q3 : ¬ ((ln : Int) < (m : Int)) := by omega
      by_cases hk1 : kd = 1
      · subst hk1
        go_wp2_with fail
        refine (does_any _ b pv l m _ ⟨1, sc, ai, xi, ti, da, dn, dc, dl⟩ DL.out KO.out).mono ?_
        rintro e w2 ⟨rfl, pv2, k⟩
        have SV2 := hide (k.tch.seg SV.out (fun x hx _ => ⟨by have := hvl.out x.block (by rw [hx]; rfl); have := HD.out.box.lt; omega, fun e2 => by have := hvl.out x.block (by rw [hx]; rfl); have := (HD.out.own.lt _ e2.symm).2; omega⟩))
        have HZ12 : Hid (wr.heap.size ≤ w2.heap.size) := Nat.le_trans HZ01.out k.tch.size
        have HSEP : Hid (∀ j, pv2.ownBlock = some j → (Value.slice va ln vc).ownBlock ≠ some j) := fun j hj e => by
          have h1 := hvl.out j e
          have h2 := (OWN.out.lt j e).2
          rcases k.lat with e2 | e2
          · rw [e2] at hj; have := (HD.out.own.lt j hj).2; omega
          · have := e2 j hj; omega
        have OW2 : Hid (w2.ownsRow wr.heap.size 5 1 (.slice va ln vc) ln (l.map (Value.int .u8))) := own_other OWN.out (fun j hj => k.tch.block j (OWN.out.lt j hj).2 (by have := hvl.out j hj; have := HD.out.box.lt; omega) (fun e2 => by have := hvl.out j hj; have := (HD.out.own.lt _ e2.symm).2; omega))
        have B2 := hide (BL.out.trans (k.below DL.out))
        have D2 := hide k.dsk
        clear k k0 k1 k2 k3 k4 k5
        have AT := (hat i hlt).below B2.out (Nat.le_refl _)
        rw [← HOE.out] at AT
        obtain ⟨j0, j1, j2, j3, j4, j5⟩ := AT
        simp only at j0 j1 j2 j3 j4 j5
        have KO2 := hide ((HO.out.ok i hlt).below B2.out (Nat.le_refl _))
        rw [← HOE.out] at KO2
        obtain ⟨er, her⟩ : ∃ er, er = dErr ⟨1, sc, ai, xi, ti, da, dn, dc, dl⟩ l m := ⟨_, rfl⟩
        rw [← her]
        have HER := hide her
        clear her
        obtain ⟨FL, hFL⟩ : ∃ FL, FL = fillL dl ti := ⟨_, rfl⟩
        have hFn : FL.length ≤ 140737488351232 := by rw [hFL]; exact fillL_len dl ti (by have := KO2.out.top; have := KO2.out.seg.1; simp only at *; omega)
        have HFL := hide hFL
        clear hFL
        go_wp2_with fail
        go_region_held3 (fun w' => w'.cell? ⟨ab, ao + i * 6 + 5, none⟩ = some (.slice da dn dc) ∧ w'.cell? ⟨ab, ao + i * 6 + 4, none⟩ = some (.int .i64 ti)) (first | exact ⟨j5, j4⟩ | go_keep | (refine ⟨?_, ?_⟩ <;> (rw [hb3.cell (by first | exact cell_lt j5 | exact cell_lt j4)]; assumption))) ((go_at_call 21; refine (filled_any da dn dc dl ti _ (by exact KO2.out.seg) (by exact KO2.out.top) (by exact KO2.out.bt)).mono ?_; rintro e w3 ⟨v3, rfl, hown3, hb3⟩))
        rw [← HFL.out] at hown3
        have hb3' : Below w2.heap.size w2 w3 := ⟨hb3.os, hb3.tape, hb3.output, hb3.size, hb3.block⟩
        have HZ34 : Hid (wr.heap.size ≤ w3.heap.size) := Nat.le_trans HZ12.out hb3.size
        have D3 := hide (D2.out.later hb3')
        have B3 := hide (B2.out.trans (hb3'.mono B2.out.size))
        have SV3 := hide (SV2.out.below hb3' (Nat.le_refl _))
        have OW3 := hide (own_below OW2.out hb3' (Nat.le_refl _))
        have FX : Hid (w3.ownsRow w2.heap.size 5 1 v3 FL.length (FL.map (Value.int .u8))) := hown3
        have hnil3 : Hid (∀ fa fn fc, v3 = .slice fa fn fc → fa = none → FL = [] ∧ fn = 0 ∧ fc = 0) := by
          show ∀ fa fn fc, _
          intro fa fn fc hv he
          rcases hown3.2 with ⟨e, h0⟩ | ⟨g, c, cur, e, _⟩
          · rw [hv] at e; injection e with _ e2 e3; exact ⟨List.eq_nil_of_length_eq_zero h0, e2, e3⟩
          · rw [hv, he] at e; cases e
        obtain ⟨fa, fc, rfl, _, _, sg3⟩ := seg_own hown3
        have SF := hide sg3
        obtain ⟨fn, hfn⟩ : ∃ fn, FL.length = fn := ⟨_, rfl⟩
        rw [hfn] at SF FX hFn hnil3 ⊢
        have HFN := hide hfn
        clear hfn hown3 hb3 hb3' sg3 j0 j1 j2 j3 j4 j5 D2 B2 SV2 OW2
        have hz3 : w.heap.size ≤ wr.heap.size := HB.out.size
        have hz4 : wr.heap.size ≤ w3.heap.size := HZ34.out
        by_cases hfit : 4194304 < ln + fn
        · have q5 : (4194304 : Int) < (ln : Int) + (fn : Int) := by omega
          have e0 : dErr ⟨1, sc, ai, xi, ti, da, dn, dc, dl⟩ l m = 91 := by have : dFull ⟨1, sc, ai, xi, ti, da, dn, dc, dl⟩ l := (by show 4194304 < l.length + (fillL dl ti).length; rw [← HFL.out, HFN.out, HLN.out]; exact hfit); simp [dErr, this]
          have e1 := dNew_err (o := ⟨1, sc, ai, xi, ti, da, dn, dc, dl⟩) (l := l) (m := m) (by rw [e0]; decide)
          have e2 := dMark_err (o := ⟨1, sc, ai, xi, ti, da, dn, dc, dl⟩) (l := l) (m := m) (by rw [e0]; decide)
          rw [e1, e2] at D3
          obtain rfl : er = 91 := by rw [HER.out]; exact e0
          clear e0 e1 e2 HER
          go_wp2_with fail
          refine (shows_yes _ b pv2 l m _ va ln vc D3.out SV3.out).mono ?_
          rintro e w4 ⟨rfl, hb4⟩
          have D4 := hide (D3.out.later hb4)
          have B4 := hide (B3.out.trans (hb4.mono B3.out.size))
          clear hb4
          go_wp2_with fail
          refine (num9_any 91 _).mono ?_
          rintro e w5 ⟨rfl, rfl⟩
          go_wp2
          go_roundw
          case rel => exact ⟨i + 1, _, _, _, by go_num, by omega, D4, B4⟩
          case measure => simp [intOf]; omega
        · have q5 : ¬ ((4194304 : Int) < (ln : Int) + (fn : Int)) := by omega
          have e0 : dErr ⟨1, sc, ai, xi, ti, da, dn, dc, dl⟩ l m = 0 := by have : ¬ dFull ⟨1, sc, ai, xi, ti, da, dn, dc, dl⟩ l := (by show ¬ 4194304 < l.length + (fillL dl ti).length; rw [← HFL.out, HFN.out, HLN.out]; exact hfit); simp [dErr, this]
          have e1 : dNew ⟨1, sc, ai, xi, ti, da, dn, dc, dl⟩ l m = l ++ FL := by simp [dNew, e0, HFL.out]
          rw [e1, dMark_else (by intro e; cases e)] at D3
          obtain rfl : er = 0 := by rw [HER.out]; exact e0
          clear e0 e1 HER
          cases fa with
          | none =>
            obtain ⟨x1, x2, x3⟩ := hnil3.out none fn fc rfl rfl
            subst x2 x3
            rw [x1, List.append_nil] at D3
            clear x1
            generalize l.map (Value.int .u8) = LM at *
            go_wp2_with (first | (at_builtin; refine wpList_append_own_none rfl _ _ 22 rfl wr.heap.size 5 i0 1 Try.underlying22 hi0 _ _ _ rfl OW3.out rfl ?_))
            refine (shows_yes _ b pv2 l m _ va ln vc D3.out SV3.out).mono ?_
            rintro e w4 ⟨rfl, hb4⟩
            have D4 := hide (D3.out.later hb4)
            have B4 := hide (B3.out.trans (hb4.mono B3.out.size))
            clear hb4
            go_wp2_with fail
            refine (num9_any 0 _).mono ?_
            rintro e w5 ⟨rfl, rfl⟩
            go_wp2
            go_roundw
            case rel => exact ⟨i + 1, _, _, _, by go_num, by omega, D4, B4⟩
            case measure => simp [intOf]; omega
          | some ad =>
            have HC : Hid (∀ j u, (FL.map (Value.int .u8))[j]? = some u → w3.cell? (ad.add j) = some u) := seg_cells9 SF.out
            obtain ⟨LM, hLM⟩ : ∃ LM, LM = l.map (Value.int .u8) := ⟨_, rfl⟩
            obtain ⟨FM, hFM⟩ : ∃ FM, FM = FL.map (Value.int .u8) := ⟨_, rfl⟩
            rw [← hLM] at OW3
            rw [← hFM] at HC
            have HLM := hide hLM
            have HFM := hide hFM
            clear hLM hFM
            go_wp2_with (first | (at_builtin; refine wpList_append_own_at _ rfl _ _ 22 rfl wr.heap.size 5 i0 (.int .u8 0) 1 1 Try.underlying22 hi0 hz0 hz1 hz2 rfl (by decide) _ _ _ rfl OW3.out ad fn fc FM rfl ?c0 HC.out ?c2 ?c3 ?c4 ?c5 ?_))
            case c0 => rw [HFM.out, List.length_map, HFN.out]
            case c2 => intro u hu; rw [HFM.out] at hu; obtain ⟨z, _, rfl⟩ := List.mem_map.1 hu; rfl
            case c3 => unfold maxLen; omega
            case c4 => omega
            intro v' w4 hown' hgrow _ hat4
            have D4 := hide (D3.out.on (hgrow.block b D3.out.box.lt (fun e => by have := (OW3.out.lt b e.symm).1; have := HD.out.box.lt; omega)) (fun j hj => hgrow.block j (D3.out.own.lt j hj).2 (fun e => HSEP.out j hj e.symm)))
            have hlen : (l ++ FL).length = ln + fn := by rw [List.length_append, HLN.out, HFN.out]
            have hmap : (l ++ FL).map (Value.int .u8) = LM ++ FM := by rw [List.map_append, ← HLM.out, ← HFM.out]
            obtain ⟨va4, vc4, e4, _, _, sg4⟩ := seg_own (l := l ++ FL) (by rw [hlen, hmap]; exact hown')
            rw [hlen] at e4 sg4
            subst e4
            have SV4 := hide sg4
            have B4 : Hid (Below w.heap.size w w4) := B3.out.grown hgrow B3.out.size (fun k hk => Nat.le_trans hz3 (OW3.out.lt k hk).1)
            clear hown' hgrow hat4 sg4 hlen hmap
            go_wp2_with fail
            refine (shows_yes _ b pv2 (l ++ FL) m _ va4 (ln + fn) vc4 D4.out SV4.out).mono ?_
            rintro e w5 ⟨rfl, hb5⟩
            have D5 := hide (D4.out.later hb5)
            have B5 := hide (B4.out.trans (hb5.mono B4.out.size))
            clear hb5
            go_wp2_with fail
            refine (num9_any 0 _).mono ?_
            rintro e w6 ⟨rfl, rfl⟩
            go_wp2
            go_roundw
            case rel => exact ⟨i + 1, _, _, _, by go_num, by omega, D5, B5⟩
            case measure => simp [intOf]; omega
      · go_wp2_with fail
        refine (does_any _ b pv l m _ ⟨kd, sc, ai, xi, ti, da, dn, dc, dl⟩ DL.out KO.out).mono ?_
        rintro e w2 ⟨rfl, pv2, k⟩
        have SV2 := hide (k.tch.seg SV.out (fun x hx _ => ⟨by have := hvl.out x.block (by rw [hx]; rfl); have := HD.out.box.lt; omega, fun e2 => by have := hvl.out x.block (by rw [hx]; rfl); have := (HD.out.own.lt _ e2.symm).2; omega⟩))
        have HZ12 : Hid (wr.heap.size ≤ w2.heap.size) := Nat.le_trans HZ01.out k.tch.size
        have HSEP : Hid (∀ j, pv2.ownBlock = some j → (Value.slice va ln vc).ownBlock ≠ some j) := fun j hj e => by
          have h1 := hvl.out j e
          have h2 := (OWN.out.lt j e).2
          rcases k.lat with e2 | e2
          · rw [e2] at hj; have := (HD.out.own.lt j hj).2; omega
          · have := e2 j hj; omega
        have OW2 : Hid (w2.ownsRow wr.heap.size 5 1 (.slice va ln vc) ln (l.map (Value.int .u8))) := own_other OWN.out (fun j hj => k.tch.block j (OWN.out.lt j hj).2 (by have := hvl.out j hj; have := HD.out.box.lt; omega) (fun e2 => by have := hvl.out j hj; have := (HD.out.own.lt _ e2.symm).2; omega))
        have B2 := hide (BL.out.trans (k.below DL.out))
        have D2 := hide k.dsk
        clear k k0 k1 k2 k3 k4 k5
        have AT := (hat i hlt).below B2.out (Nat.le_refl _)
        rw [← HOE.out] at AT
        obtain ⟨j0, j1, j2, j3, j4, j5⟩ := AT
        simp only at j0 j1 j2 j3 j4 j5
        go_wp2
        go_roundw
        case rel => exact ⟨i + 1, _, _, _, by go_num, by omega, D2, B2⟩
        case measure => simp [intOf]; omega
    · go_wp2
      go_ret
      exact ⟨rfl, HB.out⟩

set_option maxRecDepth 100000 in
/-- For every argument and every world. -/
theorem contract (H : Type) (enc : TypeId × Value → H) (W : World) (base : Nat) (args : Array Value) (ds gs : List (DataW H)) (before : List MemPlace)
    (hval : ∀ (j : Nat) t v, Try.f6.params[j]? = some t → args[j]? = some v → Value.okWide Try.prog W .any base t v)
    (hW : DataW.Whole enc Try.prog Try.f6.params.toList Rows.diskBoundsSpec.vars false W args.toList ds gs before)
    (hsz : (DataW.weightsEach Try.prog (Try.f6.params.toList ++ Rows.diskBoundsSpec.plain.varTypes Try.prog) (ds ++ gs)).all (· ≤ reachBytes) = true) :
    Calls Try.prog 6 args W fun e W' => ∃ v, e = .returned v ∧ Rows.diskBoundsSpec.post enc Try.prog Try.f6 false true false false W args v W' := by
  have hW' := hW
  obtain ⟨p, q, hA0, hV, rfl, hfz, hnd⟩ := hW
  have hA : DataW.TrodAll enc Try.prog W 0 (fun _ => true) true Try.f6.params.toList args.toList ds p := hA0
  rw [Try.params6] at hA hval hsz
  obtain ⟨v0, vs0, d0, ds0, p0, q0, hargs, rfl, rfl, h0, tr0⟩ := trodAll_cons hA
  obtain ⟨rfl, rfl, rfl⟩ := trodAll_nil tr0
  obtain rfl : args = #[v0] := by cases args; simp_all
  obtain ⟨rfl, rfl⟩ := trodVars_none hV
  obtain ⟨a0, n0, cap0, rfl⟩ := okWide_slice Try.underlying41 (hval 0 41 v0 rfl rfl)
  have k0 := h0
  have lt0 : ∀ x ∈ p0, x.block < W.heap.size := by obtain ⟨m, hm⟩ := k0; exact DataW.trod_lt m _ _ _ hm
  obtain ⟨fuel0, hf0⟩ := h0
  obtain ⟨l0, hseg0, hcap0⟩ := open_opds hf0 (fun m hm => of_decide_eq_true (List.all_eq_true.1 hsz _ (DataW.weights_mem_each (j := 0) rfl rfl m hm)))
  clear hA0
  refine (walk a0 n0 cap0 l0 W hseg0).mono fun e W' ⟨he, bel⟩ => ?_
  subst he
  exact ⟨_, rfl, _, _, _, [], _, [], hW', trodAll_mk1 (shut_bool Try.underlying4 _), (trodAll_cons_mk (Below.trod laidOut (by kernel_rfl) (of_decide_eq_true (by kernel_rfl)) k0 bel lt0) trodAll_mk0), rfl, bel.frame _, fun h => by cases h⟩

set_option maxRecDepth 100000 in
theorem lifted (os : Os) (started : os.Started) (H : Type) (enc : TypeId × Value → H) :
    ReturnsInHanded {} Try.checked os 6 .any (Rows.diskBoundsSpec.pre6 enc Try.prog Try.f6 Rows.diskBoundsRow.domain false) (Rows.diskBoundsSpec.post enc Try.prog Try.f6 false true false false) := by
  refine returnsInHanded_of_change_sized (C := Try.checked) own started (by kernel_rfl) Try.func6
    (ChangeSpec.witness6 (enc := enc) (C := Try.checked) false ⟨#[], #[.slice none 0 0], []⟩ 8 (by kernel_rfl) (by kernel_rfl) (by kernel_rfl) (by kernel_rfl)) ?_
  intro W base args ds gs before hval hW _ hsz _
  exact contract H enc W base args ds gs before hval hW hsz

end diskBounds
theorem diskBounds_proved : Rows.DiskBoundsSaid :=
  OpenClaim.holds_of_wide 6 Try.f6 rfl rfl rfl rfl rfl rfl rfl ⟨rfl, rfl, rfl, rfl, rfl⟩ rfl rfl rfl rfl rfl (by kernel_rfl) Try.func6 (by kernel_rfl)
    (of_decide_eq_true (by kernel_rfl)) (by unfold Func.isWrapper; first | (rw [if_pos (by decide +kernel)]; kernel_rfl) | (rw [if_neg (by decide +kernel)]; exact ⟨rfl, rfl⟩))
    (fun os started H enc _ => diskBounds.lifted os started H enc)
#print axioms diskBounds_proved
end Go.Proofs.Ytbgahocmabiaeaa
