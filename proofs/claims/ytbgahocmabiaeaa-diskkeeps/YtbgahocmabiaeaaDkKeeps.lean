/- Proved: for every script DiskKeeps answers true: but for rot, what is synced stays. No condition. -/
import Derived.Test.YtbgahocmabiaeaaDkShow
import Derived.Test.YtbgahocmabiaeaaDkArgs
import Derived.Test.YtbgahocmabiaeaaDkBegins
namespace Go.Proofs.Ytbgahocmabiaeaa
open Go.ChangeShapes Go.WideShapes Go.ChangeAt Go.RowKit Go.Wire1
namespace diskKeeps

/-- A list that lies elsewhere stays so behind a step. -/
theorem apart_step {w1 w2 : World} {b : Nat} {pv pv2 : Value} {l l2 : List Int} {m m2 E0 : Nat} {sa : Option Addr} {sn : Nat} {S : List Int} (k : Dst 0 w1 w2 b pv pv2 l2 m2 E0) (hs : Seg w1 sa sn S) (ha : ∀ x, sa = some x → 0 < sn → x.block ≠ b ∧ some x.block ≠ pv.ownBlock) (_hd : Dsk 0 w1 b pv l m E0) :
    ∀ x, sa = some x → 0 < sn → x.block ≠ b ∧ some x.block ≠ pv2.ownBlock := fun x hx hn => by
  refine ⟨(ha x hx hn).1, fun e => ?_⟩
  rcases k.lat with e2 | e2
  · rw [e2] at e; exact (ha x hx hn).2 e
  · have h1 := e2 x.block e.symm
    obtain ⟨b2, off, e3, hc⟩ := hs.2.2 hn
    rw [hx] at e3; cases e3
    have h2 := cell_lt (hc 0 hn)
    simp only at h1
    omega
theorem apart_new {w1 : World} {b : Nat} {pv : Value} {l : List Int} {m E0 ln vc : Nat} {va : Option Addr} (hd : Dsk 0 w1 b pv l m E0) (hv : ∀ k, (Value.slice va ln vc).ownBlock = some k → w1.heap.size ≤ k) :
    ∀ x, va = some x → 0 < ln → x.block ≠ b ∧ some x.block ≠ pv.ownBlock := fun x hx _ => by
  have h1 := hv x.block (by rw [hx]; rfl)
  have h2 := hd.box.lt
  exact ⟨by omega, fun e => by have := (hd.own.lt _ e.symm).2; omega⟩

set_option maxHeartbeats 4000000 in
set_option maxRecDepth 100000 in
theorem walk (a : Option Addr) (n cap : Nat) (ops : List OpD) (w : World) (hO : OSeg w a n ops) :
    Calls Try.prog 8 #[.slice a n cap] w fun e w' => e = .returned (.bool true) ∧ Below w.heap.size w w' := by
  have HO := hide hO
  have hn63 : n ≤ 2199023255552 := by have := hO.top; omega
  clear hO
  go_enter Try.func8, Try.ntmps8
  go_wp2_with fail
  refine (abc_any _ w.heap.size (Nat.le_refl _)).mono ?_
  rintro e w1 ⟨b, pv, rfl, hbl, d1, hb1, _⟩
  have D1 := hide d1
  have B1 := hide hb1
  clear d1 hb1 hbl
  go_wp2
  go_loopw [4, 5] (fun sv iv wr => ∃ (i : Nat) (pv : Value) (l : List Int) (m : Nat) (sa : Option Addr) (sc : Nat), sv = .slice sa m sc ∧ iv = .int .i64 (i : Int) ∧ i ≤ n ∧ Hid (Dsk 0 wr b pv l m w.heap.size) ∧ Hid (Below w.heap.size w wr) ∧ Hid (Seg wr sa m (l.take m)) ∧ Hid (∀ x, sa = some x → 0 < m → x.block ≠ b ∧ some x.block ≠ pv.ownBlock)) (fun _ iv _ => n - (intOf iv).toNat)
  case atStart => exact ⟨0, _, _, 0, none, 0, rfl, rfl, Nat.zero_le _, D1, B1, ⟨rfl, by unfold maxLen; omega, fun h => by omega⟩, fun x h => by cases h⟩
  case round =>
    clear D1 B1
    obtain ⟨i, pv, l, m, sa, sc0, rfl, rfl, hi, HD, HB, HS, HP⟩ := hrel
    by_cases hlt : i < n
    · obtain ⟨ab, ao, rfl, hat⟩ := HO.out.at_ (by omega)
      have hml : m ≤ l.length := HD.out.le
      have htp : l.length ≤ 4194304 := HD.out.top
      have AT := (hat i hlt).below HB.out (Nat.le_refl _)
      have KO := hide ((HO.out.ok i hlt).below HB.out (Nat.le_refl _))
      obtain ⟨o, ho⟩ : ∃ o, o = ops.getD i opdZ := ⟨_, rfl⟩
      rw [← ho] at AT KO
      obtain ⟨k0, k1, k2, k3, k4, k5⟩ := AT
      have HOE := hide ho
      clear ho
      obtain ⟨kd, sc, ai, xi, ti, da, dn, dc, dl⟩ := o
      simp only at k0 k1 k2 k3 k4 k5
      by_cases h5 : kd = 5
      · subst h5
        go_wp2
        go_roundw
        case rel => exact ⟨i + 1, pv, l, m, sa, sc0, rfl, by go_num, by omega, HD, HB, HS, HP⟩
        case measure => simp [intOf]; omega
      by_cases h2 : kd = 2
      · subst h2
        go_wp2_with fail
        refine (does_any _ b pv l m _ ⟨2, sc, ai, xi, ti, da, dn, dc, dl⟩ HD.out KO.out).mono ?_
        rintro e w2 ⟨rfl, pv2, k⟩
        have SS := hide (k.tch.seg HS.out HP.out)
        have HP2 := hide (apart_step k HS.out HP.out HD.out)
        have B2 := hide (HB.out.trans (k.below HD.out))
        have D2 := hide k.dsk
        rw [dNew_two rfl, dMark_two rfl] at D2
        have hm2 : l.length ≤ (l).length := D2.out.le
        have ht2 : (l).length ≤ 4194304 := D2.out.top
        have k00 := k0
        clear k k1 k2 k3 k4 k5 k0 HS HP
        go_wp2_with fail
        refine (look_any _ b pv2 l l.length _ D2.out).mono ?_
        rintro e w1 ⟨v, rfl, hown, hb1⟩
        have hvl := hide (fun k hk => (hown.lt k hk).1)
        obtain ⟨va, vc, rfl, hvc, hvm, sg⟩ := seg_own hown
        have D3 := hide (D2.out.later hb1)
        have B3 := hide (B2.out.trans (hb1.mono B2.out.size))
        have SV := hide sg
        have SS2 := hide (SS.out.below hb1 (Nat.le_refl _))
        have HV := hide (apart_new D2.out hvl.out)
        have AT := (hat i hlt).below B3.out (Nat.le_refl _)
        rw [← HOE.out] at AT
        have k0 := AT.c0
        simp only at k0
        clear AT k00 hown hb1 sg hvl
        go_wp2_with fail
        refine (begins_yes _ sa va m l.length sc0 vc (l.take m) l SS2.out SV.out hml hvc hvm rfl).mono ?_
        rintro e w4 ⟨rfl, q, rfl⟩
        have B4 := hide (below_drewN' B3.out q)
        have D4 := hide (D3.out.drewN q)
        have SV4 := hide (SV.out.drewN q)
        have k04 : (w1.drewN q).cell? ⟨ab, ao + i * 6, none⟩ = some (.int .i64 2) := k0
        clear k0 D3 B3 SV
        generalize w1.drewN q = w5 at *
        obtain ⟨ln, hln⟩ : ∃ ln, l.length = ln := ⟨_, rfl⟩
        have SV5 : Hid (Seg w5 va ln (l.take ln)) := by
          show Seg w5 va ln (l.take ln)
          have := SV4.out
          rw [← hln, List.take_length]; exact this
        rw [hln] at D4 HV ⊢
        clear hln SV4
        go_wp2
        go_roundw
        case rel => exact ⟨i + 1, pv2, l, ln, va, vc, rfl, by go_num, by omega, D4, B4, SV5, HV⟩
        case measure => simp [intOf]; omega
      · have sf := dNew_safe (o := ⟨kd, sc, ai, xi, ti, da, dn, dc, dl⟩) hml (by intro e; exact h5 e)
        obtain ⟨L2, hL2⟩ : ∃ L2, L2 = dNew ⟨kd, sc, ai, xi, ti, da, dn, dc, dl⟩ l m := ⟨_, rfl⟩
        rw [← hL2] at sf
        have SFT := hide sf
        have HL2 := hide hL2
        clear sf hL2
        go_wp2_with fail
        refine (does_any _ b pv l m _ ⟨kd, sc, ai, xi, ti, da, dn, dc, dl⟩ HD.out KO.out).mono ?_
        rintro e w2 ⟨rfl, pv2, k⟩
        have SS := hide (k.tch.seg HS.out HP.out)
        have HP2 := hide (apart_step k HS.out HP.out HD.out)
        have B2 := hide (HB.out.trans (k.below HD.out))
        have D2 := hide k.dsk
        rw [← HL2.out, dMark_else (by intro e; exact h2 e)] at D2
        have hm2 : m ≤ (L2).length := D2.out.le
        have ht2 : (L2).length ≤ 4194304 := D2.out.top
        have k00 := k0
        clear k k1 k2 k3 k4 k5 k0 HS HP
        go_wp2_with fail
        refine (look_any _ b pv2 L2 m _ D2.out).mono ?_
        rintro e w1 ⟨v, rfl, hown, hb1⟩
        have hvl := hide (fun k hk => (hown.lt k hk).1)
        obtain ⟨va, vc, rfl, hvc, hvm, sg⟩ := seg_own hown
        have D3 := hide (D2.out.later hb1)
        have B3 := hide (B2.out.trans (hb1.mono B2.out.size))
        have SV := hide sg
        have SS2 := hide (SS.out.below hb1 (Nat.le_refl _))
        have HV := hide (apart_new D2.out hvl.out)
        have AT := (hat i hlt).below B3.out (Nat.le_refl _)
        rw [← HOE.out] at AT
        have k0 := AT.c0
        simp only at k0
        clear AT k00 hown hb1 sg hvl
        go_wp2_with fail
        refine (begins_yes _ sa va m L2.length sc0 vc (l.take m) L2 SS2.out SV.out SFT.out.2 hvc hvm SFT.out.1).mono ?_
        rintro e w4 ⟨rfl, q, rfl⟩
        have B4 := hide (below_drewN' B3.out q)
        have D4 := hide (D3.out.drewN q)
        have SS4 : Hid (Seg (w1.drewN q) sa m (L2.take m)) := by show Seg _ _ _ _; rw [SFT.out.1]; exact SS2.out.drewN q
        have k04 : (w1.drewN q).cell? ⟨ab, ao + i * 6, none⟩ = some (.int .i64 kd) := k0
        clear k0 D3 B3 SV SS2 HV
        generalize w1.drewN q = w5 at *
        go_wp2
        go_roundw
        case rel => exact ⟨i + 1, pv2, L2, m, sa, sc0, rfl, by go_num, by omega, D4, B4, SS4, HP2⟩
        case measure => simp [intOf]; omega
    · go_wp2
      go_ret
      exact ⟨rfl, HB.out⟩

set_option maxRecDepth 100000 in
/-- For every argument and every world. -/
theorem contract (H : Type) (enc : TypeId × Value → H) (W : World) (base : Nat) (args : Array Value) (ds gs : List (DataW H)) (before : List MemPlace)
    (hval : ∀ (j : Nat) t v, Try.f8.params[j]? = some t → args[j]? = some v → Value.okWide Try.prog W .any base t v)
    (hW : DataW.Whole enc Try.prog Try.f8.params.toList Rows.diskKeepsSpec.vars false W args.toList ds gs before)
    (hsz : (DataW.weightsEach Try.prog (Try.f8.params.toList ++ Rows.diskKeepsSpec.plain.varTypes Try.prog) (ds ++ gs)).all (· ≤ reachBytes) = true) :
    Calls Try.prog 8 args W fun e W' => ∃ v, e = .returned v ∧ Rows.diskKeepsSpec.post enc Try.prog Try.f8 false true false false W args v W' := by
  have hW' := hW
  obtain ⟨p, q, hA0, hV, rfl, hfz, hnd⟩ := hW
  have hA : DataW.TrodAll enc Try.prog W 0 (fun _ => true) true Try.f8.params.toList args.toList ds p := hA0
  rw [Try.params8] at hA hval hsz
  obtain ⟨v0, vs0, d0, ds0, p0, q0, hargs, rfl, rfl, h0, tr0⟩ := trodAll_cons hA
  obtain ⟨rfl, rfl, rfl⟩ := trodAll_nil tr0
  obtain rfl : args = #[v0] := by cases args; simp_all
  obtain ⟨rfl, rfl⟩ := trodVars_none hV
  obtain ⟨a0, n0, cap0, rfl⟩ := okWide_slice Try.underlying41 (hval 0 41 v0 rfl rfl)
  have k0 := h0
  have lt0 : ∀ x ∈ p0, x.block < W.heap.size := by obtain ⟨m, hm⟩ := k0; exact DataW.trod_lt m _ _ _ hm
  obtain ⟨fuel0, hf0⟩ := h0
  obtain ⟨l0, hseg0, hcap0⟩ := open_opds hf0 (fun m hm => of_decide_eq_true (List.all_eq_true.1 hsz _ (DataW.weights_mem_each (j := 0) rfl rfl m hm)))
  clear hA0
  refine (walk a0 n0 cap0 l0 W hseg0).mono fun e W' ⟨he, bel⟩ => ?_
  subst he
  exact ⟨_, rfl, _, _, _, [], _, [], hW', trodAll_mk1 (shut_bool Try.underlying4 _), (trodAll_cons_mk (Below.trod laidOut (by kernel_rfl) (of_decide_eq_true (by kernel_rfl)) k0 bel lt0) trodAll_mk0), rfl, bel.frame _, fun h => by cases h⟩

set_option maxRecDepth 100000 in
theorem lifted (os : Os) (started : os.Started) (H : Type) (enc : TypeId × Value → H) :
    ReturnsInHanded {} Try.checked os 8 .any (Rows.diskKeepsSpec.pre6 enc Try.prog Try.f8 Rows.diskKeepsRow.domain false) (Rows.diskKeepsSpec.post enc Try.prog Try.f8 false true false false) := by
  refine returnsInHanded_of_change_sized (C := Try.checked) own started (by kernel_rfl) Try.func8
    (ChangeSpec.witness6 (enc := enc) (C := Try.checked) false ⟨#[], #[.slice none 0 0], []⟩ 8 (by kernel_rfl) (by kernel_rfl) (by kernel_rfl) (by kernel_rfl)) ?_
  intro W base args ds gs before hval hW _ hsz _
  exact contract H enc W base args ds gs before hval hW hsz

end diskKeeps
theorem diskKeeps_proved : Rows.DiskKeepsSaid :=
  OpenClaim.holds_of_wide 8 Try.f8 rfl rfl rfl rfl rfl rfl rfl ⟨rfl, rfl, rfl, rfl, rfl⟩ rfl rfl rfl rfl rfl (by kernel_rfl) Try.func8 (by kernel_rfl)
    (of_decide_eq_true (by kernel_rfl)) (by unfold Func.isWrapper; first | (rw [if_pos (by decide +kernel)]; kernel_rfl) | (rw [if_neg (by decide +kernel)]; exact ⟨rfl, rfl⟩))
    (fun os started H enc _ => diskKeeps.lifted os started H enc)
#print axioms diskKeeps_proved
end Go.Proofs.Ytbgahocmabiaeaa
