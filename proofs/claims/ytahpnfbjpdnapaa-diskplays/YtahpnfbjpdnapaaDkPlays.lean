/- Proved: for every list of steps DiskPlays answers true: of two disks beside one another every answer of every call is the document's. No condition. -/
import Derived.Test.YtahpnfbjpdnapaaDkPlaces
import Derived.Test.YtahpnfbjpdnapaaArgs
namespace Go.Proofs.Ytahpnfbjpdnapaa
open Go.ChangeShapes Go.WideShapes Go.ChangeAt Go.RowKit Go.Wire1 Go.MuLone
namespace diskPlays

set_option maxHeartbeats 8000000 in
set_option maxRecDepth 100000 in
theorem walk (a : Option Addr) (n cap : Nat) (ops : List OpD) (w : World) (hO : OSeg w a n ops) :
    Calls Try.prog 4 #[.slice a n cap] w fun e w' => e = .returned (.bool true) ∧ Below w.heap.size w w' := by
  have HO := hide hO
  have hn63 : n ≤ 2199023255552 := by have := hO.top; omega
  clear hO
  have kc : ∀ (w : World) (C : Array Value) (n c g : Nat), g = w.heap.size → Sem.run Try.prog (convert 27 27 (Value.slice (some ⟨g, 0, none⟩) n c)) (w.alloc (Obj.cells C 5)) = Result.ok (Value.slice (some ⟨g, 0, none⟩) n c) (w.alloc (Obj.cells C 5 (C.size, C.size + 1))) := by
    rintro w C n c g rfl
    exact Lib.run_convert_bytes_const (P := Try.prog) w 27 5 C n c Try.underlying27 Try.underlying5
  go_enter Try.func4, Try.ntmps4
  go_wp2_with fail
  refine (places_any _).mono ?_
  rintro e w1 ⟨rfl, hb1⟩
  have B1 := hide hb1
  clear hb1
  go_wp2_with fail
  refine (begun_any _ w.heap.size B1.out.size (fun _ => 0) 0).mono ?_
  rintro e w2 ⟨pa, ba, rba, ro2, rfl, hpa, hb2, hag2, P2⟩
  have B2 := hide (B1.out.trans (hb2.mono B1.out.size))
  have PA2 : Hid (PA w2 ro2 0 pa w.heap.size) := ⟨_, _, _, _, _, _, _, _, _, P2⟩
  have c2 := P2.box.cell 0 _ rfl
  have HPL : Hid (pa < w2.heap.size) := P2.box.lt
  have HAG2 : Hid (∀ k, k < w.heap.size → ro2 k = 0) := fun k hk => hag2 k (Nat.lt_of_lt_of_le hk B1.out.size)
  clear hb2 hag2 P2 hpa
  go_wp2_with fail
  refine (begun_any _ w.heap.size B2.out.size ro2 10).mono ?_
  rintro e w3 ⟨pb, bb, rbb, ro3, rfl, hpb, hb3, hag3, P3⟩
  have B3 := hide (B2.out.trans (hb3.mono B2.out.size))
  have c30 : w3.cell? ⟨pa, 0, none⟩ = some (.pointer (some ⟨ba, 0, none⟩)) := (hb3.cell (p := ⟨pa, 0, none⟩) HPL.out).trans c2
  have c31 := P3.box.cell 0 _ rfl
  have PA3 : Hid (PA w3 ro3 0 pa w.heap.size) := (PA2.out.rerole hag3).later hb3
  have PB3 : Hid (PA w3 ro3 10 pb w.heap.size) := ⟨_, _, _, _, _, _, _, _, _, P3⟩
  have HAG3 : Hid (∀ k, k < w.heap.size → ro3 k = 0) := fun k hk => (hag3 k (Nat.lt_of_lt_of_le hk B2.out.size)).trans (HAG2.out k hk)
  clear hb3 hag3 P3 hpb c2
  obtain ⟨ro4, hro4⟩ : ∃ ro4 : Nat → Nat, ro4 = fun k => if k < w3.heap.size then ro3 k else 0 := ⟨_, rfl⟩
  have AG4 : ∀ k, k < w3.heap.size → ro4 k = ro3 k := fun k hk => by rw [hro4]; exact if_pos hk
  have RZ4 : Hid (∀ k, k < w.heap.size → ro4 k = 0) := fun k hk => (AG4 k (Nat.lt_of_lt_of_le hk B3.out.size)).trans (HAG3.out k hk)
  obtain ⟨hOS, hbl⟩ := head_lit w3 ro4 (fun k hk => by rw [hro4]; exact if_neg (by omega))
  have OS4 := hide hOS
  have PA4 := hide ((PA3.out.rerole AG4).later hbl)
  have PB4 := hide ((PB3.out.rerole AG4).later hbl)
  have B4 := hide (B3.out.trans (hbl.mono B3.out.size))
  obtain ⟨OPS, hOPS⟩ : ∃ OPS : Nat → List OpD, OPS = fun _ => [⟨1, false, 0, 0, 0, some ⟨w3.heap.size, 0, none⟩, 3, 3, [97, 98, 99]⟩, ⟨6, false, 0, 0, 0, none, 0, 0, []⟩, ⟨2, false, 0, 0, 0, none, 0, 0, []⟩, ⟨1, false, 0, 0, 0, some ⟨w3.heap.size + 1, 0, none⟩, 2, 2, [100, 101]⟩, ⟨6, false, 0, 0, 0, none, 0, 0, []⟩, ⟨3, false, 0, 0, 0, none, 0, 0, []⟩] := ⟨_, rfl⟩
  rw [show [⟨1, false, 0, 0, 0, some ⟨w3.heap.size, 0, none⟩, 3, 3, [97, 98, 99]⟩, ⟨6, false, 0, 0, 0, none, 0, 0, []⟩, ⟨2, false, 0, 0, 0, none, 0, 0, []⟩, ⟨1, false, 0, 0, 0, some ⟨w3.heap.size + 1, 0, none⟩, 2, 2, [100, 101]⟩, ⟨6, false, 0, 0, 0, none, 0, 0, []⟩, ⟨3, false, 0, 0, 0, none, 0, 0, []⟩] = OPS 0 from by rw [hOPS]] at OS4
  clear hOS hbl hro4 AG4 hOPS
  go_wp2
  go_loopw [7] (fun iv wr => ∃ (i : Nat) (ro : Nat → Nat), iv = .int .i64 (i : Int) ∧ i ≤ 6 ∧ Hid (OSegR wr ro (some ⟨w3.heap.size + 1 + 1, 0, none⟩) 6 (OPS 0)) ∧ Hid (PA wr ro 0 pa w.heap.size) ∧ Hid (PA wr ro 10 pb w.heap.size) ∧ Hid (Below w.heap.size w wr) ∧ Hid (∀ k, k < w.heap.size → ro k = 0)) (fun iv _ => 6 - (intOf iv).toNat)
  case atStart => exact ⟨0, ro4, rfl, Nat.zero_le _, OS4, PA4, PB4, B4, RZ4⟩
  case round =>
    clear c30 c31 PA4 PB4 OS4 B4 RZ4
    obtain ⟨i, ro, rfl, hi, HL, HP, HQ, HB, HZ⟩ := hrel
    obtain ⟨lb, hlb⟩ : ∃ lb, lb = w3.heap.size + 1 + 1 := ⟨_, rfl⟩
    rw [← hlb] at HL ⊢
    clear hlb
    by_cases hlt : i < 6
    · obtain ⟨ab, ao, ea, hat⟩ := HL.out.seg.at_ (by omega)
      cases ea
      have AT := hat i hlt
      rw [Nat.zero_add] at AT
      have KO := hide (HL.out.seg.ok i hlt)
      have KD := hide (HL.out.at 0 hlt)
      generalize (OPS 0).getD i opdZ = o at AT KO KD
      clear hat
      obtain ⟨k0, k1, k2, k3, k4, k5⟩ := AT
      obtain ⟨kd, sc, ai, xi, ti, da, dn, dc, dl⟩ := o
      simp only at k0 k1 k2 k3 k4 k5
      have q9 : (i : Int) < 6 := by omega
      go_wp2_with fail
      refine (plays_any _ ro 0 pa w.heap.size HP.out ⟨kd, sc, ai, xi, ti, da, dn, dc, dl⟩ KO.out KD.out).mono ?_
      rintro e w5 ⟨rfl, st⟩
      obtain ⟨ro2, ag2, hp2⟩ := st.pa
      have HP2 := hide hp2
      have HQ2 := hide (HQ.out.other ag2 st (by omega))
      have HL2 := hide (HL.out.step st ag2)
      have HB2 := hide (HB.out.trans (st.below HZ.out HB.out.size))
      have HZ2 : Hid (∀ k, k < w.heap.size → ro2 k = 0) := fun k hk => (ag2 k (Nat.lt_of_lt_of_le hk HB.out.size)).trans (HZ.out k hk)
      clear st ag2 hp2 k0 k1 k2 k3 k4 k5 HP HQ HB HZ KO KD HL
      go_wp2
      go_roundw
      case rel => exact ⟨i + 1, ro2, by go_num, by omega, HL2, HP2, HQ2, HB2, HZ2⟩
      case measure => simp [intOf]; omega
    · have q9 : ¬ ((i : Int) < 6) := by omega
      clear HL
      go_wp2
      go_loopw [9] (fun iv wr => ∃ (i : Nat) (ro : Nat → Nat), iv = .int .i64 (i : Int) ∧ i ≤ n ∧ Hid (PA wr ro 0 pa w.heap.size) ∧ Hid (PA wr ro 10 pb w.heap.size) ∧ Hid (Below w.heap.size w wr) ∧ Hid (∀ k, k < w.heap.size → ro k = 0)) (fun iv _ => n - (intOf iv).toNat)
      case atStart => exact ⟨0, ro, rfl, Nat.zero_le _, HP, HQ, HB, HZ⟩
      case round =>
        clear HP HQ HB HZ
        obtain ⟨j, ro, rfl, hj, HP, HQ, HB, HZ⟩ := hrel
        by_cases hjt : j < n
        · obtain ⟨ab, ao, rfl, hat⟩ := HO.out.at_ (by omega)
          have AT := (hat j hjt).below HB.out (Nat.le_refl _)
          have KO := hide ((HO.out.ok j hjt).below HB.out (Nat.le_refl _))
          have KX : Hid (∀ x, (ops.getD j opdZ).da = some x → 0 < (ops.getD j opdZ).dn → x.block < w.heap.size) := fun x hx h0 => by
            obtain ⟨c, off, e, hc⟩ := (HO.out.ok j hjt).seg.2.2 h0
            rw [hx] at e; cases e
            exact cell_lt (hc 0 h0)
          generalize ops.getD j opdZ = o at AT KO KX
          clear hat
          obtain ⟨k0, k1, k2, k3, k4, k5⟩ := AT
          obtain ⟨kd, sc, ai, xi, ti, da, dn, dc, dl⟩ := o
          simp only at k0 k1 k2 k3 k4 k5
          have KD : Hid (∀ o x, da = some x → 0 < dn → x.block < wr.heap.size ∧ (ro x.block < o + 1 ∨ o + 4 < ro x.block)) := fun o x hx h0 => ⟨Nat.lt_of_lt_of_le (KX.out x hx h0) HB.out.size, .inl (by rw [HZ.out _ (KX.out x hx h0)]; omega)⟩
          have q8 : (j : Int) < (n : Int) := by omega
          cases sc with
          | true =>
            go_wp2_with fail
            refine (plays_any _ ro 10 pb w.heap.size HQ.out ⟨kd, true, ai, xi, ti, da, dn, dc, dl⟩ KO.out (KD.out 10)).mono ?_
            rintro e w5 ⟨rfl, st⟩
            obtain ⟨ro2, ag2, hp2⟩ := st.pa
            have HQ2 := hide hp2
            have HP2 := hide (HP.out.other ag2 st (by omega))
            have HB2 := hide (HB.out.trans (st.below HZ.out HB.out.size))
            have HZ2 : Hid (∀ k, k < w.heap.size → ro2 k = 0) := fun k hk => (ag2 k (Nat.lt_of_lt_of_le hk HB.out.size)).trans (HZ.out k hk)
            clear st ag2 hp2 k0 k1 k2 k3 k4 k5 HP HQ HB HZ KO KD KX
            go_wp2
            go_roundw
            case rel => exact ⟨j + 1, ro2, by go_num, by omega, HP2, HQ2, HB2, HZ2⟩
            case measure => simp [intOf]; omega
          | false =>
            go_wp2_with fail
            refine (plays_any _ ro 0 pa w.heap.size HP.out ⟨kd, false, ai, xi, ti, da, dn, dc, dl⟩ KO.out (KD.out 0)).mono ?_
            rintro e w5 ⟨rfl, st⟩
            obtain ⟨ro2, ag2, hp2⟩ := st.pa
            have HP2 := hide hp2
            have HQ2 := hide (HQ.out.other ag2 st (by omega))
            have HB2 := hide (HB.out.trans (st.below HZ.out HB.out.size))
            have HZ2 : Hid (∀ k, k < w.heap.size → ro2 k = 0) := fun k hk => (ag2 k (Nat.lt_of_lt_of_le hk HB.out.size)).trans (HZ.out k hk)
            clear st ag2 hp2 k0 k1 k2 k3 k4 k5 HP HQ HB HZ KO KD KX
            go_wp2
            go_roundw
            case rel => exact ⟨j + 1, ro2, by go_num, by omega, HP2, HQ2, HB2, HZ2⟩
            case measure => simp [intOf]; omega
        · have q8 : ¬ ((j : Int) < (n : Int)) := by omega
          go_wp2
          go_ret
          exact ⟨rfl, HB.out⟩

set_option maxRecDepth 100000 in
/-- For every argument and every world. -/
theorem contract (H : Type) (enc : TypeId × Value → H) (W : World) (base : Nat) (args : Array Value) (ds gs : List (DataW H)) (before : List MemPlace)
    (hval : ∀ (j : Nat) t v, Try.f4.params[j]? = some t → args[j]? = some v → Value.okWide Try.prog W .any base t v)
    (hW : DataW.Whole enc Try.prog Try.f4.params.toList Rows.diskPlaysSpec.vars false W args.toList ds gs before)
    (hsz : (DataW.weightsEach Try.prog (Try.f4.params.toList ++ Rows.diskPlaysSpec.plain.varTypes Try.prog) (ds ++ gs)).all (· ≤ reachBytes) = true) :
    Calls Try.prog 4 args W fun e W' => ∃ v, e = .returned v ∧ Rows.diskPlaysSpec.post enc Try.prog Try.f4 false true false false W args v W' := by
  have hW' := hW
  obtain ⟨p, q, hA0, hV, rfl, hfz, hnd⟩ := hW
  have hA : DataW.TrodAll enc Try.prog W 0 (fun _ => true) true Try.f4.params.toList args.toList ds p := hA0
  rw [Try.params4] at hA hval hsz
  obtain ⟨v0, vs0, d0, ds0, p0, q0, hargs, rfl, rfl, h0, tr0⟩ := trodAll_cons hA
  obtain ⟨rfl, rfl, rfl⟩ := trodAll_nil tr0
  obtain rfl : args = #[v0] := by cases args; simp_all
  obtain ⟨rfl, rfl⟩ := trodVars_none hV
  obtain ⟨a0, n0, cap0, rfl⟩ := okWide_slice Try.underlying22 (hval 0 22 v0 rfl rfl)
  have k0 := h0
  have lt0 : ∀ x ∈ p0, x.block < W.heap.size := by obtain ⟨m, hm⟩ := k0; exact DataW.trod_lt m _ _ _ hm
  obtain ⟨fuel0, hf0⟩ := h0
  obtain ⟨l0, hseg0, hcap0⟩ := open_opds hf0 (fun m hm => of_decide_eq_true (List.all_eq_true.1 hsz _ (DataW.weights_mem_each (j := 0) rfl rfl m hm)))
  clear hA0
  refine (walk a0 n0 cap0 l0 W hseg0).mono fun e W' ⟨he, bel⟩ => ?_
  subst he
  exact ⟨_, rfl, _, _, _, [], _, [], hW', trodAll_mk1 (shut_bool Try.underlying4 _), (trodAll_cons_mk (Below.trod laidOut (by kernel_rfl) (of_decide_eq_true (by kernel_rfl)) k0 bel lt0) trodAll_mk0), rfl, bel.frame _, fun h => by cases h⟩

set_option maxRecDepth 100000 in
theorem lifted (os : Os) (started : os.Started) (H : Type) (enc : TypeId × Value → H) :
    ReturnsInHanded {} Try.checked os 4 .any (Rows.diskPlaysSpec.pre6 enc Try.prog Try.f4 Rows.diskPlaysRow.domain false) (Rows.diskPlaysSpec.post enc Try.prog Try.f4 false true false false) := by
  refine returnsInHanded_of_change_sized (C := Try.checked) own started (by kernel_rfl) Try.func4
    (ChangeSpec.witness6 (enc := enc) (C := Try.checked) false ⟨#[], #[.slice none 0 0], []⟩ 8 (by kernel_rfl) (by kernel_rfl) (by kernel_rfl) (by kernel_rfl)) ?_
  intro W base args ds gs before hval hW _ hsz _
  exact contract H enc W base args ds gs before hval hW hsz

end diskPlays
theorem diskPlays_proved : Rows.DiskPlaysSaid :=
  OpenClaim.holds_of_wide 4 Try.f4 rfl rfl rfl rfl rfl rfl rfl ⟨rfl, rfl, rfl, rfl, rfl⟩ rfl rfl rfl rfl rfl (by kernel_rfl) Try.func4 (by kernel_rfl)
    (of_decide_eq_true (by kernel_rfl)) (by unfold Func.isWrapper; first | (rw [if_pos (by decide +kernel)]; kernel_rfl) | (rw [if_neg (by decide +kernel)]; exact ⟨rfl, rfl⟩))
    (fun os started H enc _ => diskPlays.lifted os started H enc)
#print axioms diskPlays_proved
end Go.Proofs.Ytahpnfbjpdnapaa
