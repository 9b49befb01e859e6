/- Texts of the proof, joined. -/
import Derived.Test.YtpjdgbhjjknopaaDoorJ23
import Derived.Test.YtpjdgbhjjknopaaDoorJ15
/- The contract of the scan's key2. -/
namespace Go.Proofs.YtpjdgbhjjknopaaDoor
open Go.RowKit Go.Wire1

theorem gT_size (least most : Int) (l : List Int) (s : St) (hm : 0 ≤ most) : ((gT least most l s).1.size : Int) ≤ most := by
  have e0 : ((⟨#[]⟩ : ByteArray).size : Int) = 0 := rfl
  unfold gT
  split
  · split
    · rename_i x m _
      split
      · rename_i h1
        split
        · show ((strOfNums ((l.drop (s.k + m)).take x)).size : Int) ≤ most
          rw [strOfNums_size, List.length_take]; omega
        · rw [e0]; exact hm
      · rw [e0]; exact hm
    · rw [e0]; exact hm
  · rw [e0]; exact hm
def k2A (key : ByteArray) (l : List Int) (s : St) : Nat × St := sNum key.size 45 l s
def k2T (key : ByteArray) (l : List Int) (s : St) : ByteArray × St := sTxt (1 - ((k2A key l s).1 : Int)) (64 - ((k2A key l s).1 : Int)) 45 l (k2A key l s).2
def k2K (key : ByteArray) (l : List Int) (s : St) : ByteArray := key.extract 0 (k2A key l s).1 ++ (k2T key l s).1
def k2F1 (key : ByteArray) (l : List Int) (s : St) : Int := if (k2A key l s).1 < shared key (k2K key l s) then refF 13 (k2T key l s).2.ft else (k2T key l s).2.ft
def k2F (kind : Int) (key : ByteArray) (l : List Int) (s : St) : Int := if isPairB kind key (k2K key l s) then k2F1 key l s else refF 45 (k2F1 key l s)
def sKey2 (kind : Int) (key : ByteArray) (l : List Int) (s : St) : ByteArray × St := (k2K key l s, ⟨(k2T key l s).2.k, (k2T key l s).2.f, k2F kind key l s⟩)

set_option maxHeartbeats 2000000 in
set_option maxRecDepth 100000 in
theorem key2_scn (g b n cap : Nat) (sa : Option Addr) (l : List Int) (a : Nat → Addr) (kind : Int) (key : ByteArray) (s : St) (w : World) (hk : key.size ≤ 64) (h : Scs w g b sa n cap l a s) :
    Calls Tryd.prog 23 #[.pointer (some ⟨g, 0, none⟩), .int .i64 kind, .string key] w fun e w' => e = .returned (.string (sKey2 kind key l s).1) ∧ Turn g b w w' ∧ Scs w' g b sa n cap l a (sKey2 kind key l s).2 := by
  have HS := hide h
  clear h
  obtain ⟨x, hx⟩ : ∃ x, Hid ((k2A key l s).1 = x) := ⟨_, rfl⟩
  have hxl : x ≤ key.size := by rw [← hx.out]; exact gU_le _ _ _
  obtain ⟨s1, hs1⟩ : ∃ s1, Hid ((k2A key l s).2 = s1) := ⟨_, rfl⟩
  have eT : Hid (k2T key l s = sTxt (1 - (x : Int)) (64 - (x : Int)) 45 l s1) := by unfold k2T; rw [hx.out, hs1.out]; rfl
  obtain ⟨t, htt⟩ : ∃ t, Hid ((sTxt (1 - (x : Int)) (64 - (x : Int)) 45 l s1).1 = t) := ⟨_, rfl⟩
  have htl : (t.size : Int) ≤ 64 - (x : Int) := by rw [← htt.out]; exact gT_size _ _ _ _ (by omega)
  obtain ⟨s2, hs2⟩ : ∃ s2, Hid ((sTxt (1 - (x : Int)) (64 - (x : Int)) 45 l s1).2 = s2) := ⟨_, rfl⟩
  obtain ⟨ke, hke⟩ : ∃ ke, Hid (key.extract 0 x = ke) := ⟨_, rfl⟩
  have hkl : ke.size = x := by rw [← hke.out, ByteArray.size_extract]; omega
  obtain ⟨k2, hk2⟩ : ∃ k2, Hid (ke ++ t = k2) := ⟨_, rfl⟩
  have hk2l : k2.size ≤ 64 := by rw [← hk2.out, ByteArray.size_append]; omega
  have eK : Hid (k2K key l s = k2) := by unfold k2K; rw [hx.out, eT.out, htt.out, hke.out, hk2.out]; rfl
  have hsl : ∀ V : World, (Instr.slice 9 (.string key) none (some (.int .i64 (x : Int))) none).run Tryd.prog V = .ok (.string ke) V := fun V => by
    have := run_slice_string_h V 9 key Tryd.underlying9 .i64 (x : Int) (by omega) (by omega)
    rw [← hke.out]; simpa using this
  have hadd : ∀ V : World, (Op.stringOp .add ke t).run Tryd.prog V = .ok (.string k2) V := fun V => by
    rw [← hk2.out]; exact run_string_add_sum V ke t (by omega)
  obtain ⟨sh, hsh⟩ : ∃ sh, Hid (shared key k2 = sh) := ⟨_, rfl⟩
  have hshl : sh ≤ 64 := by rw [← hsh.out]; have := shared_le key k2; omega
  have e1 : Hid (k2F1 key l s = if x < sh then refF 13 s2.ft else s2.ft) := by unfold k2F1; rw [eK.out, hsh.out, hx.out, eT.out, hs2.out]; rfl
  obtain ⟨z, hz⟩ : ∃ z, Hid ((sKey2 kind key l s).2 = z) := ⟨_, rfl⟩
  have ez : Hid (z = ⟨s2.k, s2.f, if isPairB kind key k2 then k2F1 key l s else refF 45 (k2F1 key l s)⟩) := by
    rw [← hz.out]; unfold sKey2 k2F; rw [eT.out, hs2.out, eK.out]; rfl
  have er : Hid ((sKey2 kind key l s).1 = k2) := eK
  rw [er.out, hz.out]
  rw [e1.out] at ez
  have W1 : Hid (IntKind.i64.wrap (1 - (x : Int)) = 1 - (x : Int)) := by rw [Hid, IntKind.wrap_i64]; omega
  have W2 : Hid (IntKind.i64.wrap (64 - (x : Int)) = 64 - (x : Int)) := by rw [Hid, IntKind.wrap_i64]; omega
  clear hkl
  by_cases hgt : x < sh
  · cases hp : isPairB kind key k2 with
    | true =>
      have e2 : Hid (z = ⟨s2.k, s2.f, refF 13 s2.ft⟩) := by rw [ez.out, hp, if_pos hgt]; rfl
      have d1 : decide ((x : Int) < (sh : Int)) = true := decide_eq_true (by omega)
      clear ez d1
      go_enter Tryd.func23, Tryd.ntmps23
      go_wp2_with fail
      refine (number_scn g b n cap sa l a key.size 45 s _ (by omega) HS.out).mono ?_
      rintro e w1 ⟨rfl, T1, S1⟩
      rw [show (sNum key.size 45 l s).1 = x from hx.out]
      rw [show (sNum key.size 45 l s).2 = s1 from hs1.out] at S1
      have HT1 := hide T1
      have HS1 := hide S1
      clear T1 S1
      go_wp2
      go_region_held3 (fun _ => True) (first | trivial) (first | (go_at_call 22; rw [W1.out, W2.out]; refine (text_scn g b n cap sa l a (1 - (x : Int)) (64 - (x : Int)) 45 s1 _ (by omega) (by omega) (by omega) (by omega) (by exact HS1.out.drew)).mono ?_; rintro e w2 ⟨rfl, T2, S2⟩; rw [htt.out]))
      rw [hs2.out] at S2
      have HT2 : Hid (Turn g b w w2) := (HT1.out.trans (z := w1.drew) ⟨rfl, rfl, rfl, Nat.le_refl _, fun _ _ _ _ => rfl⟩).trans T2
      have HS2 := hide S2
      clear T2 S2 HS1 HT1
      go_wp2_with fail
      refine (sharedStart_any key k2 _ (by omega) (by omega)).mono ?_
      rintro e w3 ⟨rfl, q3, hq3⟩
      rw [hsh.out]
      have HT3 : Hid (Turn g b w w3) := by rw [hq3]; exact ⟨HT2.out.os, HT2.out.tape, HT2.out.output, HT2.out.size, HT2.out.block⟩
      have HS3 : Hid (Scs w3 g b sa n cap l a s2) := by rw [hq3]; exact HS2.out.drewN q3
      clear hq3 HT2 HS2
      go_wp2_with fail
      refine (refuse_any g b n cap _ _ _ sa l a 13 _ HS3.out).mono ?_
      rintro e w4 ⟨rfl, T4, S4⟩
      have HT4 := hide (HT3.out.trans (Turn.ofG T4))
      have HS4 := hide S4
      clear T4 S4 HT3 HS3
      go_wp2_with fail
      refine (isPair_any kind key k2 _).mono ?_
      rintro e w5 ⟨rfl, rfl⟩
      rw [hp]
      clear hp
      have R : Hid (Scs w4 g b sa n cap l a z) := by rw [e2.out]; exact HS4.out
      go_wp2
      go_ret
      exact ⟨rfl, HT4.out, R.out⟩
    | false =>
      have e2 : Hid (z = ⟨s2.k, s2.f, refF 45 (refF 13 s2.ft)⟩) := by rw [ez.out, hp, if_pos hgt]; rfl
      have d1 : decide ((x : Int) < (sh : Int)) = true := decide_eq_true (by omega)
      clear ez d1
      go_enter Tryd.func23, Tryd.ntmps23
      go_wp2_with fail
      refine (number_scn g b n cap sa l a key.size 45 s _ (by omega) HS.out).mono ?_
      rintro e w1 ⟨rfl, T1, S1⟩
      rw [show (sNum key.size 45 l s).1 = x from hx.out]
      rw [show (sNum key.size 45 l s).2 = s1 from hs1.out] at S1
      have HT1 := hide T1
      have HS1 := hide S1
      clear T1 S1
      go_wp2
      go_region_held3 (fun _ => True) (first | trivial) (first | (go_at_call 22; rw [W1.out, W2.out]; refine (text_scn g b n cap sa l a (1 - (x : Int)) (64 - (x : Int)) 45 s1 _ (by omega) (by omega) (by omega) (by omega) (by exact HS1.out.drew)).mono ?_; rintro e w2 ⟨rfl, T2, S2⟩; rw [htt.out]))
      rw [hs2.out] at S2
      have HT2 : Hid (Turn g b w w2) := (HT1.out.trans (z := w1.drew) ⟨rfl, rfl, rfl, Nat.le_refl _, fun _ _ _ _ => rfl⟩).trans T2
      have HS2 := hide S2
      clear T2 S2 HS1 HT1
      go_wp2_with fail
      refine (sharedStart_any key k2 _ (by omega) (by omega)).mono ?_
      rintro e w3 ⟨rfl, q3, hq3⟩
      rw [hsh.out]
      have HT3 : Hid (Turn g b w w3) := by rw [hq3]; exact ⟨HT2.out.os, HT2.out.tape, HT2.out.output, HT2.out.size, HT2.out.block⟩
      have HS3 : Hid (Scs w3 g b sa n cap l a s2) := by rw [hq3]; exact HS2.out.drewN q3
      clear hq3 HT2 HS2
      go_wp2_with fail
      refine (refuse_any g b n cap _ _ _ sa l a 13 _ HS3.out).mono ?_
      rintro e w4 ⟨rfl, T4, S4⟩
      have HT4 := hide (HT3.out.trans (Turn.ofG T4))
      have HS4 := hide S4
      clear T4 S4 HT3 HS3
      go_wp2_with fail
      refine (isPair_any kind key k2 _).mono ?_
      rintro e w5 ⟨rfl, rfl⟩
      rw [hp]
      clear hp
      go_wp2_with fail
      refine (refuse_any g b n cap _ _ _ sa l a 45 _ HS4.out).mono ?_
      rintro e w6 ⟨rfl, T6, S6⟩
      have HT6 := hide (HT4.out.trans (Turn.ofG T6))
      have HS6 : Hid (Scs w6 g b sa n cap l a z) := by rw [e2.out]; exact S6
      clear T6 S6 HT4 HS4
      go_wp2
      go_ret
      exact ⟨rfl, HT6.out, HS6.out⟩
  · cases hp : isPairB kind key k2 with
    | true =>
      have e2 : Hid (z = ⟨s2.k, s2.f, s2.ft⟩) := by rw [ez.out, hp, if_neg hgt]; rfl
      have d1 : decide ((x : Int) < (sh : Int)) = false := decide_eq_false (by omega)
      clear ez d1
      go_enter Tryd.func23, Tryd.ntmps23
      go_wp2_with fail
      refine (number_scn g b n cap sa l a key.size 45 s _ (by omega) HS.out).mono ?_
      rintro e w1 ⟨rfl, T1, S1⟩
      rw [show (sNum key.size 45 l s).1 = x from hx.out]
      rw [show (sNum key.size 45 l s).2 = s1 from hs1.out] at S1
      have HT1 := hide T1
      have HS1 := hide S1
      clear T1 S1
      go_wp2
      go_region_held3 (fun _ => True) (first | trivial) (first | (go_at_call 22; rw [W1.out, W2.out]; refine (text_scn g b n cap sa l a (1 - (x : Int)) (64 - (x : Int)) 45 s1 _ (by omega) (by omega) (by omega) (by omega) (by exact HS1.out.drew)).mono ?_; rintro e w2 ⟨rfl, T2, S2⟩; rw [htt.out]))
      rw [hs2.out] at S2
      have HT2 : Hid (Turn g b w w2) := (HT1.out.trans (z := w1.drew) ⟨rfl, rfl, rfl, Nat.le_refl _, fun _ _ _ _ => rfl⟩).trans T2
      have HS2 := hide S2
      clear T2 S2 HS1 HT1
      go_wp2_with fail
      refine (sharedStart_any key k2 _ (by omega) (by omega)).mono ?_
      rintro e w3 ⟨rfl, q3, hq3⟩
      rw [hsh.out]
      have HT3 : Hid (Turn g b w w3) := by rw [hq3]; exact ⟨HT2.out.os, HT2.out.tape, HT2.out.output, HT2.out.size, HT2.out.block⟩
      have HS3 : Hid (Scs w3 g b sa n cap l a s2) := by rw [hq3]; exact HS2.out.drewN q3
      clear hq3 HT2 HS2
      go_wp2_with fail
      refine (isPair_any kind key k2 _).mono ?_
      rintro e w5 ⟨rfl, rfl⟩
      rw [hp]
      clear hp
      have R : Hid (Scs w3 g b sa n cap l a z) := by rw [e2.out]; exact HS3.out
      go_wp2
      go_ret
      exact ⟨rfl, HT3.out, R.out⟩
    | false =>
      have e2 : Hid (z = ⟨s2.k, s2.f, refF 45 (s2.ft)⟩) := by rw [ez.out, hp, if_neg hgt]; rfl
      have d1 : decide ((x : Int) < (sh : Int)) = false := decide_eq_false (by omega)
      clear ez d1
      go_enter Tryd.func23, Tryd.ntmps23
      go_wp2_with fail
      refine (number_scn g b n cap sa l a key.size 45 s _ (by omega) HS.out).mono ?_
      rintro e w1 ⟨rfl, T1, S1⟩
      rw [show (sNum key.size 45 l s).1 = x from hx.out]
      rw [show (sNum key.size 45 l s).2 = s1 from hs1.out] at S1
      have HT1 := hide T1
      have HS1 := hide S1
      clear T1 S1
      go_wp2
      go_region_held3 (fun _ => True) (first | trivial) (first | (go_at_call 22; rw [W1.out, W2.out]; refine (text_scn g b n cap sa l a (1 - (x : Int)) (64 - (x : Int)) 45 s1 _ (by omega) (by omega) (by omega) (by omega) (by exact HS1.out.drew)).mono ?_; rintro e w2 ⟨rfl, T2, S2⟩; rw [htt.out]))
      rw [hs2.out] at S2
      have HT2 : Hid (Turn g b w w2) := (HT1.out.trans (z := w1.drew) ⟨rfl, rfl, rfl, Nat.le_refl _, fun _ _ _ _ => rfl⟩).trans T2
      have HS2 := hide S2
      clear T2 S2 HS1 HT1
      go_wp2_with fail
      refine (sharedStart_any key k2 _ (by omega) (by omega)).mono ?_
      rintro e w3 ⟨rfl, q3, hq3⟩
      rw [hsh.out]
      have HT3 : Hid (Turn g b w w3) := by rw [hq3]; exact ⟨HT2.out.os, HT2.out.tape, HT2.out.output, HT2.out.size, HT2.out.block⟩
      have HS3 : Hid (Scs w3 g b sa n cap l a s2) := by rw [hq3]; exact HS2.out.drewN q3
      clear hq3 HT2 HS2
      go_wp2_with fail
      refine (isPair_any kind key k2 _).mono ?_
      rintro e w5 ⟨rfl, rfl⟩
      rw [hp]
      clear hp
      go_wp2_with fail
      refine (refuse_any g b n cap _ _ _ sa l a 45 _ HS3.out).mono ?_
      rintro e w6 ⟨rfl, T6, S6⟩
      have HT6 := hide (HT3.out.trans (Turn.ofG T6))
      have HS6 : Hid (Scs w6 g b sa n cap l a z) := by rw [e2.out]; exact S6
      clear T6 S6 HT3 HS3
      go_wp2
      go_ret
      exact ⟨rfl, HT6.out, HS6.out⟩
end Go.Proofs.YtpjdgbhjjknopaaDoor
