/- Proved: for every two commands CommandMeets answers true: a conflict is a range's first key that lies in ranges of both, one of them written. No condition. -/
import Derived.Test.YtahaecnopeffhaaTLies
import Derived.Test.YtahaecnopeffhaaCArgs
namespace Go.Proofs.Ytahaecnopeffhaa
namespace commandMeets
open Go.ChangeShapes Go.WideShapes Go.ChangeAt Go.RowKit Go.Wire1

theorem Try.infoS : (Try.prog.info? 9).map (fun i => (i.zero, i.size, i.bytes)) = some (some (.string ⟨#[]⟩), 1, 16) := by kernel_rfl
def Strs (w : World) (B : Nat) (v : Value) (L : List ByteArray) : Prop := w.ownsRow B 9 1 v L.length (L.map Value.string)
theorem Strs.shape {w : World} {B : Nat} {v : Value} {L : List ByteArray} (h : Strs w B v L) : ∃ a cap, v = .slice a L.length cap := own_shape h
theorem Strs.below {w w' : World} {B C : Nat} {v : Value} {L : List ByteArray} (h : Strs w B v L) (hb : Below C w w') (hC : w.heap.size ≤ C) : Strs w' B v L := own_below h hb hC
theorem Strs.at {w : World} {B : Nat} {a : Option Addr} {n cap : Nat} {L : List ByteArray} (h : Strs w B (.slice a n cap) L) {i : Nat} (hi : i < L.length) :
    ∃ b, a = some ⟨b, 0, none⟩ ∧ w.cell? ⟨b, i, none⟩ = some (.string (L.getD i ByteArray.empty)) := by
  rcases h.2 with ⟨_, h0⟩ | ⟨b, cap', cur, e, hr⟩
  · omega
  · simp only [Value.slice.injEq] at e
    obtain ⟨rfl, rfl, rfl⟩ := e
    refine ⟨b, rfl, ?_⟩
    rw [World.ownsRow.cellAt h _ (by omega)]
    simp [List.getElem?_eq_getElem hi]
theorem Strs.push {B : Nat} {w wr w1 : World} {v v' : Value} {L : List ByteArray} {t : ByteArray} {m : Nat} (hm : L.length = m) (hB : B ≤ wr.heap.size) (h : Strs wr B v L) (hb : Below B w wr) (h' : w1.ownsRow B 9 1 v' (m + 1) (L.map Value.string ++ [.string t])) (hg : wr.grownBy w1 v.ownBlock) : Strs w1 B v' (L ++ [t]) ∧ Below B w w1 :=
  ⟨by unfold Strs; subst hm; simpa using h', hb.grown hg hB (fun j hj => (World.ownsRow.lt h j hj).1)⟩
theorem keys_next (A : List Tch) (i : Nat) (hi : i < A.length) : (A.map Tch.k).take (i + 1) = (A.map Tch.k).take i ++ [(A.getD i tZ).k] := by
  rw [List.take_succ_eq_append_getElem (by simpa using hi)]
  simp [List.getD, List.getElem?_eq_getElem hi]
theorem found_next (A C : List Tch) (K : List ByteArray) (i : Nat) (hi : i < K.length) : foundB A C (K.take (i + 1)) = (foundB A C (K.take i) || (inAny (K.getD i ByteArray.empty) A && inAny (K.getD i ByteArray.empty) C && (inWr (K.getD i ByteArray.empty) A || inWr (K.getD i ByteArray.empty) C))) := by
  unfold foundB
  rw [List.take_succ_eq_append_getElem hi, List.any_append, List.getD, List.getElem?_eq_getElem hi]
  simp

set_option maxHeartbeats 4000000 in
set_option maxRecDepth 100000 in
theorem walk (kind client req : Int) (key key2 val old : ByteArray) (n : Int) (kind' client' req' : Int) (key' key2' val' old' : ByteArray) (n' : Int) (w : World) (hk : key.size ≤ 140737488351232) (hk2 : key2.size ≤ 140737488351232) (hk' : key'.size ≤ 140737488351232) (hk2' : key2'.size ≤ 140737488351232) :
    Calls Try.prog 4 #[.agg #[.int .i64 kind, .int .i64 client, .int .i64 req, .string key, .string key2, .string val, .string old, .int .i64 n], .agg #[.int .i64 kind', .int .i64 client', .int .i64 req', .string key', .string key2', .string val', .string old', .int .i64 n']] w fun e w' => e = .returned (.bool true) ∧ Below w.heap.size w w' := by
  obtain ⟨i0, hi0, hz0, hz1, hz2⟩ := info_parts Try.infoS
  obtain ⟨A, hA⟩ : ∃ A, Hid (touchL kind key key2 = A) := ⟨_, rfl⟩
  obtain ⟨C, hC⟩ : ∃ C, Hid (touchL kind' key' key2' = C) := ⟨_, rfl⟩
  have okA : Hid (foundB A C (A.map Tch.k ++ C.map Tch.k) = clashB A C) := found_clash A C
  obtain ⟨V, hV⟩ : ∃ V, V = (w.alloc (.cells #[.int .i64 kind, .int .i64 client, .int .i64 req, .string key, .string key2, .string val, .string old, .int .i64 n] 23)).alloc (.cells #[.int .i64 kind', .int .i64 client', .int .i64 req', .string key', .string key2', .string val', .string old', .int .i64 n'] 23) := ⟨_, rfl⟩
  have X : Hid (CBox V w.heap.size kind client req key key2 val old n) := by rw [hV]; exact (cbox_new w 23 _ _ _ _ _ _ _ _).below ((Below.refl _ _).alloc (Nat.le_refl _) _) (Nat.le_refl _)
  have Y : Hid (CBox V (w.heap.size + 1) kind' client' req' key' key2' val' old' n') := by
    have := cbox_new (w.alloc (.cells #[.int .i64 kind, .int .i64 client, .int .i64 req, .string key, .string key2, .string val, .string old, .int .i64 n] 23)) 23 kind' client' req' key' key2' val' old' n'
    rw [World.size_alloc] at this
    rw [hV]; exact this
  have hVs : w.heap.size ≤ V.heap.size := by rw [hV]; simp; omega
  have BV : Hid (Below w.heap.size w V) := by rw [hV]; exact ((Below.refl _ _).alloc (Nat.le_refl _) _).alloc (by simp) _
  have small : Hid ((⟨#[107]⟩ : ByteArray).size ≤ 140737488351232) := by show (1 : Nat) ≤ _; omega
  have none' : Hid ((⟨#[]⟩ : ByteArray).size ≤ 140737488351232) := by show (0 : Nat) ≤ _; omega
  go_enter Try.func4, Try.ntmps4
  go_wp2_with fail
  rw [← hV]
  clear hV
  refine (put_any _ _).mono ?_
  rintro e w1 ⟨rfl, hb1⟩
  have B1 : Hid (Below V.heap.size V w1) := hb1
  have s1 : V.heap.size ≤ w1.heap.size := hb1.size
  clear hb1
  go_wp2_with fail
  refine (put_any _ _).mono ?_
  rintro e w2 ⟨rfl, hb2⟩
  have B2 : Hid (Below V.heap.size V w2) := B1.out.trans (hb2.mono s1)
  have s2 : V.heap.size ≤ w2.heap.size := B2.out.size
  clear hb2 B1
  go_wp2_with fail
  refine (conflict_any _ _ _ _ _ _ _ _ _ _ _ _ _ _ _ _ _ small.out none'.out small.out none'.out).mono ?_
  rintro e w3 ⟨rfl, hb3⟩
  have B3 : Hid (Below V.heap.size V w3) := B2.out.trans (hb3.mono s2)
  have s3 : V.heap.size ≤ w3.heap.size := B3.out.size
  clear hb3 B2 s1 s2
  rw [clash_self, decide_eq_true (show (2 : Int) ≤ 2 ∧ (2 : Int) ≤ 7 by omega)]
  obtain ⟨x0, x1, x2, x3, x4, x5, x6, x7⟩ := X.out.below B3.out (Nat.le_refl _)
  go_wp2_with fail
  refine (touches_any kind client req key key2 val old n _ hk hk2).mono ?_
  rintro e w4 ⟨v4, rfl, T4, hb4⟩
  rw [hA.out] at T4
  obtain ⟨a4, c4, rfl⟩ := T4.shape
  have HT4 := hide T4
  have B4 : Hid (Below V.heap.size V w4) := B3.out.trans (hb4.mono s3)
  have s4 : V.heap.size ≤ w4.heap.size := B4.out.size
  clear hb4 B3 T4 x0 x1 x2 x3 x4 x5 x6 x7 s3
  obtain ⟨y0, y1, y2, y3, y4, y5, y6, y7⟩ := Y.out.below B4.out (Nat.le_refl _)
  go_wp2_with fail
  refine (touches_any kind' client' req' key' key2' val' old' n' _ hk' hk2').mono ?_
  rintro e w5 ⟨v5, rfl, T5, hb5⟩
  rw [hC.out] at T5
  obtain ⟨a5, c5, rfl⟩ := T5.shape
  have HT5 := hide T5
  have HT4' := hide (HT4.out.below hb5 (Nat.le_refl _))
  have B5 : Hid (Below V.heap.size V w5) := B4.out.trans (hb5.mono s4)
  have s5 : V.heap.size ≤ w5.heap.size := B5.out.size
  clear hb5 B4 T5 HT4 y0 y1 y2 y3 y4 y5 y6 y7 s4
  have hla : A.length ≤ 2 := by rw [← hA.out]; exact touchL_len _ _ _
  have hlc : C.length ≤ 2 := by rw [← hC.out]; exact touchL_len _ _ _
  obtain ⟨na, hna⟩ : ∃ na, Hid (A.length = na) := ⟨_, rfl⟩
  obtain ⟨nc, hnc⟩ : ∃ nc, Hid (C.length = nc) := ⟨_, rfl⟩
  rw [hna.out] at HT4' hla ⊢
  rw [hnc.out] at HT5 hlc ⊢
  go_wp2_with fail
  go_loopw [8, 9] (fun v x wr => ∃ i : Nat, x = .int .i64 (i : Int) ∧ i ≤ na ∧ Hid (Strs wr w5.heap.size v ((A.map Tch.k).take i)) ∧ Hid (Below w5.heap.size w5 wr)) (fun _ x _ => na - (intOf x).toNat)
  case atStart => exact ⟨0, rfl, by omega, World.ownsRow_nil _ _ _ _, Below.refl _ _⟩
  case round =>
    obtain ⟨i, rfl, hi, HK, HB⟩ := hrel
    have hws := HB.out.size
    by_cases hlt : i < na
    · obtain ⟨b, rfl, d0, d1, d2⟩ := (HT4'.out.below HB.out (Nat.le_refl _)).at (i := i) (by rw [hna.out]; exact hlt)
      have hlen : Hid (((A.map Tch.k).take i).length = i) := by
        have := hna.out
        rw [List.length_take, List.length_map]; exact hide (by omega)
      have HE : Hid ((A.map Tch.k).take (i + 1) = (A.map Tch.k).take i ++ [(A.getD i tZ).k]) := keys_next A i (by rw [hna.out]; exact hlt)
      obtain ⟨t, ht⟩ : ∃ t, Hid (A.getD i tZ = t) := ⟨_, rfl⟩
      rw [ht.out] at d0 HE
      obtain ⟨P, hP⟩ : ∃ P, Hid ((A.map Tch.k).take i = P) := ⟨_, rfl⟩
      rw [hP.out] at HK hlen HE
      obtain ⟨tk, te, tw⟩ := t
      simp only at d0
      have HO := HK.out
      unfold Strs at HO
      rw [hlen.out] at HO
      clear d1 d2
      go_wp2_with (first
        | (at_builtin; refine wpList_append_own _ rfl _ _ 29 rfl w5.heap.size 9 i0 (.string ⟨#[]⟩) 1 16 Try.underlying29 hi0 hz0 hz1 hz2 rfl (by decide) _ _ _ rfl (World.ownsRow.alloc HO _) ⟨wr.heap.size, 0, none⟩ 1 1 [.string tk] rfl rfl ?n1 ?n2 ?n3 ?n4 ?n5 ?_))
      case n2 => first | rfl | (intro u hu; simp at hu; subst hu; rfl)
      case n3 => unfold maxLen; omega
      case n4 => omega
      case n5 => first | omega | (simp; omega)
      intro v' w6 hown hg _
      have R := Strs.push (t := tk) hlen.out (by simp; omega) (World.ownsRow.alloc HK.out _) (HB.out.alloc hws _) hown hg
      have R1 := hide R.1
      have R2 := hide R.2
      clear hown hg R HO
      go_wp2
      go_roundw
      case rel => exact ⟨i + 1, by go_num, by omega, by rw [HE.out]; exact R1.out, R2⟩
      case measure => simp [intOf]; omega
    · have HK6' := HK.out
      rw [List.take_of_length_le (by rw [List.length_map, hna.out]; omega)] at HK6'
      have HK6 := hide HK6'
      clear HK6'
      have HT6 := hide (HT4'.out.below HB.out (Nat.le_refl _))
      have HT7 := hide (HT5.out.below HB.out (Nat.le_refl _))
      obtain ⟨w6, hw6⟩ : ∃ w6, w6 = wr := ⟨_, rfl⟩
      rw [← hw6] at HK6 HT6 HT7 HB hws ⊢
      clear HK hw6
      go_wp2_with fail
      go_loopw [8, 10] (fun v x wr => ∃ i : Nat, x = .int .i64 (i : Int) ∧ i ≤ nc ∧ Hid (Strs wr w5.heap.size v (A.map Tch.k ++ (C.map Tch.k).take i)) ∧ Hid (Below w5.heap.size w5 wr)) (fun _ x _ => nc - (intOf x).toNat)
      case atStart => exact ⟨0, rfl, by omega, by simpa using HK6, HB⟩
      case round =>
        clear HK6 HT6 HT7 HB hws
        obtain ⟨i, rfl, hi, HK, HB⟩ := hrel
        have hws := HB.out.size
        by_cases hlt : i < nc
        · obtain ⟨b, rfl, d0, d1, d2⟩ := (HT5.out.below HB.out (Nat.le_refl _)).at (i := i) (by rw [hnc.out]; exact hlt)
          have hlen : Hid ((A.map Tch.k ++ (C.map Tch.k).take i).length = na + i) := by
            have := hna.out
            have := hnc.out
            rw [List.length_append, List.length_take, List.length_map, List.length_map]; exact hide (by omega)
          have HE : Hid (A.map Tch.k ++ (C.map Tch.k).take (i + 1) = (A.map Tch.k ++ (C.map Tch.k).take i) ++ [(C.getD i tZ).k]) := by rw [keys_next C i (by rw [hnc.out]; exact hlt), List.append_assoc]; rfl
          obtain ⟨t, ht⟩ : ∃ t, Hid (C.getD i tZ = t) := ⟨_, rfl⟩
          rw [ht.out] at d0 HE
          obtain ⟨P, hP⟩ : ∃ P, Hid (A.map Tch.k ++ (C.map Tch.k).take i = P) := ⟨_, rfl⟩
          rw [hP.out] at HK hlen HE
          obtain ⟨tk, te, tw⟩ := t
          simp only at d0
          have HO := HK.out
          unfold Strs at HO
          rw [hlen.out] at HO
          clear d1 d2
          go_wp2_with (first
            | (at_builtin; refine wpList_append_own _ rfl _ _ 29 rfl w5.heap.size 9 i0 (.string ⟨#[]⟩) 1 16 Try.underlying29 hi0 hz0 hz1 hz2 rfl (by decide) _ _ _ rfl (World.ownsRow.alloc HO _) ⟨wr.heap.size, 0, none⟩ 1 1 [.string tk] rfl rfl ?m1 ?m2 ?m3 ?m4 ?m5 ?_))
          case m2 => first | rfl | (intro u hu; simp at hu; subst hu; rfl)
          case m3 => unfold maxLen; omega
          case m4 => omega
          case m5 => first | omega | (simp; omega)
          intro v' w6 hown hg _
          have R := Strs.push (t := tk) hlen.out (by simp; omega) (World.ownsRow.alloc HK.out _) (HB.out.alloc hws _) hown hg
          have R1 := hide R.1
          have R2 := hide R.2
          clear hown hg R HO
          go_wp2
          go_roundw
          case rel => exact ⟨i + 1, by go_num, by omega, by rw [HE.out]; exact R1.out, R2⟩
          case measure => simp [intOf]; omega
        · have HK7' := HK.out
          rw [List.take_of_length_le (by rw [List.length_map, hnc.out]; omega)] at HK7'
          have HK7 := hide HK7'
          clear HK7'
          obtain ⟨KS, hKS⟩ : ∃ KS, Hid (A.map Tch.k ++ C.map Tch.k = KS) := ⟨_, rfl⟩
          have hlen : Hid (KS.length = na + nc) := by
            rw [← hKS.out, List.length_append, List.length_map, List.length_map, hna.out, hnc.out]; rfl
          rw [hKS.out] at HK7 okA
          obtain ⟨a7, c7, hv7⟩ := HK7.out.shape
          rw [hlen.out] at hv7
          subst hv7
          have HT6 := hide (HT4'.out.below HB.out (Nat.le_refl _))
          have HT7 := hide (HT5.out.below HB.out (Nat.le_refl _))
          obtain ⟨w6, hw6⟩ : ∃ w6, w6 = wr := ⟨_, rfl⟩
          rw [← hw6] at HK7 HT6 HT7 HB hws ⊢
          clear HK hw6
          go_wp2_with fail
          go_loopw [11, 12] (fun f x wr => ∃ i : Nat, f = .bool (foundB A C (KS.take i)) ∧ x = .int .i64 (i : Int) ∧ i ≤ na + nc ∧ wr = w6) (fun _ x _ => na + nc - (intOf x).toNat)
          case atStart => exact ⟨0, rfl, rfl, by omega, rfl⟩
          case round =>
            obtain ⟨i, rfl, rfl, hi, rfl⟩ := hrel
            by_cases hlt : i < na + nc
            · obtain ⟨b, rfl, d0⟩ := HK7.out.at (i := i) (by rw [hlen.out]; exact hlt)
              have HF := hide (found_next A C KS i (by rw [hlen.out]; exact hlt))
              generalize KS.getD i ByteArray.empty = k at *
              generalize foundB A C (KS.take i) = f at *
              cases f with
              | true =>
                have HF' : Hid (foundB A C (KS.take (i + 1)) = true) := by rw [HF.out]; exact Bool.true_or _
                go_wp2_with fail
                refine (lies_any k _ na _ _ A _ HT6.out hna.out (by omega)).mono ?_
                rintro e w9 ⟨rfl, rfl⟩
                go_wp2_with fail
                refine (lies_any k _ nc _ _ C _ HT7.out hnc.out (by omega)).mono ?_
                rintro e w9 ⟨rfl, rfl⟩
                go_wp2
                go_roundw
                case rel => exact ⟨i + 1, by rw [HF'.out], by go_num, by omega, trivial⟩
                case measure => simp [intOf]; omega
              | false =>
                go_wp2_with fail
                refine (lies_any k _ na _ _ A _ HT6.out hna.out (by omega)).mono ?_
                rintro e w9 ⟨rfl, rfl⟩
                go_wp2_with fail
                refine (lies_any k _ nc _ _ C _ HT7.out hnc.out (by omega)).mono ?_
                rintro e w9 ⟨rfl, rfl⟩
                generalize inAny k A = p at *
                generalize inAny k C = q at *
                generalize inWr k A = y at *
                generalize inWr k C = z at *
                have HF' : Hid (foundB A C (KS.take (i + 1)) = (p && q && (y || z))) := by rw [HF.out]; exact Bool.false_or _
                clear HF
                cases p with
                | false =>
                  go_wp2
                  go_roundw
                  case rel => exact ⟨i + 1, by rw [HF'.out]; rfl, by go_num, by omega, trivial⟩
                  case measure => simp [intOf]; omega
                | true =>
                  cases q with
                  | false =>
                    go_wp2
                    go_roundw
                    case rel => exact ⟨i + 1, by rw [HF'.out]; rfl, by go_num, by omega, trivial⟩
                    case measure => simp [intOf]; omega
                  | true =>
                    cases y with
                    | true =>
                      go_wp2
                      go_roundw
                      case rel => exact ⟨i + 1, by rw [HF'.out]; rfl, by go_num, by omega, trivial⟩
                      case measure => simp [intOf]; omega
                    | false =>
                      go_wp2
                      go_roundw
                      case rel => exact ⟨i + 1, by rw [HF'.out]; simp, by go_num, by omega, trivial⟩
                      case measure => simp [intOf]; omega
            · have HF : Hid (foundB A C (KS.take i) = clashB A C) := by rw [List.take_of_length_le (by rw [hlen.out]; omega)]; exact okA
              rw [HF.out]
              have B6 : Hid (Below V.heap.size V wr) := B5.out.trans (HB.out.mono s5)
              obtain ⟨x0, x1, x2, x3, x4, x5, x6, x7⟩ := X.out.below B6.out (Nat.le_refl _)
              obtain ⟨y0, y1, y2, y3, y4, y5, y6, y7⟩ := Y.out.below B6.out (Nat.le_refl _)
              go_wp2_with fail
              refine (conflict_any kind client req key key2 val old n kind' client' req' key' key2' val' old' n' _ hk hk2 hk' hk2').mono ?_
              rintro e w9 ⟨rfl, hb9⟩
              rw [hA.out, hC.out]
              have B9 : Hid (Below V.heap.size V w9) := B6.out.trans (hb9.mono (by have := B6.out.size; omega))
              clear hb9
              generalize clashB A C = c at *
              have hcc : (c == c) = true := by simp
              go_wp2
              go_ret
              exact ⟨by first | rfl | (show Ending.returned (.bool (c == c)) = _; rw [hcc]), BV.out.trans (B9.out.mono hVs)⟩

set_option maxRecDepth 100000 in
/-- For every argument and every world. -/
theorem contract (H : Type) (enc : TypeId × Value → H) (W : World) (base : Nat) (args : Array Value) (ds gs : List (DataW H)) (before : List MemPlace)
    (hval : ∀ (j : Nat) t v, Try.f4.params[j]? = some t → args[j]? = some v → Value.okWide Try.prog W .any base t v)
    (hW : DataW.Whole enc Try.prog Try.f4.params.toList Rows.commandMeetsSpec.vars false W args.toList ds gs before)
    (hsz : (DataW.weightsEach Try.prog (Try.f4.params.toList ++ Rows.commandMeetsSpec.plain.varTypes Try.prog) (ds ++ gs)).all (· ≤ reachBytes) = true) :
    Calls Try.prog 4 args W fun e W' => ∃ v, e = .returned v ∧ Rows.commandMeetsSpec.post enc Try.prog Try.f4 false true false false W args v W' := by
  have hW' := hW
  obtain ⟨p, q, hA0, hV, rfl, hfz, hnd⟩ := hW
  have hA : DataW.TrodAll enc Try.prog W 0 (fun _ => true) true Try.f4.params.toList args.toList ds p := hA0
  rw [Try.params4] at hA hval hsz
  obtain ⟨v0, vs0, d0, ds0, p0, q0, hargs, rfl, rfl, h0, r0⟩ := trodAll_cons hA
  obtain ⟨v1, vs1, d1, ds1, p1, q1, rfl, rfl, rfl, h1, r1⟩ := trodAll_cons r0
  obtain ⟨rfl, rfl, rfl⟩ := trodAll_nil r1
  obtain rfl : args = #[v0, v1] := by cases args; simp_all
  obtain ⟨rfl, rfl⟩ := trodVars_none hV
  have k0 := h0
  have lt0 : ∀ x ∈ p0, x.block < W.heap.size := by obtain ⟨m, hm⟩ := k0; exact DataW.trod_lt m _ _ _ hm
  obtain ⟨kd0, cl0, rq0, ka0, kb0, va0, ol0, nn0, rfl, hd0, b0⟩ := copen_cmd (hval 0 23 v0 rfl rfl) h0
  have k1 := h1
  have lt1 : ∀ x ∈ p1, x.block < W.heap.size := by obtain ⟨m, hm⟩ := k1; exact DataW.trod_lt m _ _ _ hm
  obtain ⟨kd1, cl1, rq1, ka1, kb1, va1, ol1, nn1, rfl, hd1, b1⟩ := copen_cmd (hval 1 23 v1 rfl rfl) h1
  have sz0 := csized hsz (j := 0) (kind := kd0) (client := cl0) (req := rq0) (key := ka0) (key2 := kb0) (val := va0) (old := ol0) (n := nn0) rfl (by rw [show d0 = _ from hd0]; rfl)
  have sz1 := csized hsz (j := 1) (kind := kd1) (client := cl1) (req := rq1) (key := ka1) (key2 := kb1) (val := va1) (old := ol1) (n := nn1) rfl (by rw [show d1 = _ from hd1]; rfl)
  clear hA0
  refine (walk kd0 cl0 rq0 ka0 kb0 va0 ol0 nn0 kd1 cl1 rq1 ka1 kb1 va1 ol1 nn1 W sz0.1 sz0.2.1 sz1.1 sz1.2.1).mono fun e W' ⟨he, bel⟩ => ?_
  subst he
  exact ⟨_, rfl, _, _, _, [], _, [], hW', trodAll_mk1 (shut_bool Try.underlying4 _), (trodAll_cons_mk (Below.trod claid (by kernel_rfl) (of_decide_eq_true (by kernel_rfl)) k0 bel lt0) (trodAll_cons_mk (Below.trod claid (by kernel_rfl) (of_decide_eq_true (by kernel_rfl)) k1 bel lt1) trodAll_mk0)), rfl, bel.frame _, fun h => by cases h⟩

set_option maxRecDepth 100000 in
theorem lifted (os : Os) (started : os.Started) (H : Type) (enc : TypeId × Value → H) :
    ReturnsInHanded {} Try.checked os 4 .any (Rows.commandMeetsSpec.pre6 enc Try.prog Try.f4 Rows.commandMeetsRow.domain false) (Rows.commandMeetsSpec.post enc Try.prog Try.f4 false true false false) := by
  refine returnsInHanded_of_change_sized (C := Try.checked) cown started (by kernel_rfl) Try.func4
    (ChangeSpec.witness6 (enc := enc) (C := Try.checked) false ⟨#[], #[.agg #[.int .i64 0, .int .i64 0, .int .i64 0, .string ⟨#[]⟩, .string ⟨#[]⟩, .string ⟨#[]⟩, .string ⟨#[]⟩, .int .i64 0], .agg #[.int .i64 0, .int .i64 0, .int .i64 0, .string ⟨#[]⟩, .string ⟨#[]⟩, .string ⟨#[]⟩, .string ⟨#[]⟩, .int .i64 0]], []⟩ 8 (by kernel_rfl) (by kernel_rfl) (by kernel_rfl) (by kernel_rfl)) ?_
  intro W base args ds gs before hval hW _ hsz _
  exact contract H enc W base args ds gs before hval hW hsz

end commandMeets
theorem commandMeets_proved : Rows.CommandMeetsSaid :=
  OpenClaim.holds_of_wide 4 Try.f4 rfl rfl rfl rfl rfl rfl rfl ⟨rfl, rfl, rfl, rfl, rfl⟩ rfl rfl rfl rfl rfl (by kernel_rfl) Try.func4 (by kernel_rfl)
    (of_decide_eq_true (by kernel_rfl)) (by unfold Func.isWrapper; first | (rw [if_pos (by decide +kernel)]; kernel_rfl) | (rw [if_neg (by decide +kernel)]; exact ⟨rfl, rfl⟩))
    (fun os started H enc _ => commandMeets.lifted os started H enc)
#print axioms commandMeets_proved
end Go.Proofs.Ytahaecnopeffhaa
