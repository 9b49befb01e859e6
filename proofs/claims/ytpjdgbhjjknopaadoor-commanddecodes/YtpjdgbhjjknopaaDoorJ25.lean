/- Texts of the proof, joined. -/
import Derived.Test.YtpjdgbhjjknopaaDoorJ12
import Derived.Test.YtpjdgbhjjknopaaDoorJ14
import Derived.Test.YtpjdgbhjjknopaaDoorJ16
import Derived.Test.YtpjdgbhjjknopaaDoorJ24
/- The document's own scan: its second key. -/
namespace Go.Proofs.YtpjdgbhjjknopaaDoor
open Go.RowKit Go.Wire1

theorem rcT_size (least top : Nat) (own : Int) (l : List Int) (k : Nat) (f : Int) : (rcT least top own l k f).1.size ≤ top := by
  have h := rcU_le top own l k f
  have e0 : (⟨#[]⟩ : ByteArray).size = 0 := rfl
  unfold rcT
  split
  · split
    · rw [e0]; omega
    · split
      · rw [e0]; omega
      · show (strOfNums _).size ≤ top
        rw [strOfNums_size, List.length_take]; omega
  · rw [e0]; omega

def rkA (key : ByteArray) (l : List Int) (k : Nat) (f : Int) : Nat × Nat × Int := rcU key.size 45 l k f
def rkT (key : ByteArray) (l : List Int) (k : Nat) (f : Int) : ByteArray × Nat × Int := rcT (1 - (rkA key l k f).1) (64 - (rkA key l k f).1) 45 l (rkA key l k f).2.1 (rkA key l k f).2.2
def rkK (key : ByteArray) (l : List Int) (k : Nat) (f : Int) : ByteArray := key.extract 0 (rkA key l k f).1 ++ (rkT key l k f).1
/-- What the document's scan reads as a second key from k on. -/
def rcK (kind : Int) (key : ByteArray) (l : List Int) (k : Nat) (f : Int) : ByteArray × Nat × Int :=
  if (rkT key l k f).2.2 = 0 then
    (if (rkA key l k f).1 < shared key (rkK key l k f) then (⟨#[]⟩, (rkT key l k f).2.1, 13)
     else if isPairB kind key (rkK key l k f) then (rkK key l k f, (rkT key l k f).2.1, 0)
     else (rkK key l k f, (rkT key l k f).2.1, 45))
  else (⟨#[]⟩, (rkT key l k f).2.1, (rkT key l k f).2.2)

set_option maxHeartbeats 2000000 in
set_option maxRecDepth 100000 in
theorem rcKey2_any (kind : Int) (key : ByteArray) (b n cap k : Nat) (f : Int) (sa : Option Addr) (l : List Int) (a : Nat → Addr) (w : World) (hk : key.size ≤ 64) (h : Rdr w b sa n cap k f l a) :
    Calls Tryd.prog 28 #[.pointer (some ⟨b, 0, none⟩), .int .i64 kind, .string key] w fun e w' => e = .returned (.string (rcK kind key l k f).1) ∧ Touch b w w' ∧ Rdr w' b sa n cap (rcK kind key l k f).2.1 (rcK kind key l k f).2.2 l a := by
  obtain ⟨x, hx⟩ : ∃ x, Hid ((rkA key l k f).1 = x) := ⟨_, rfl⟩
  obtain ⟨k1, hk1⟩ : ∃ k1, Hid ((rkA key l k f).2.1 = k1) := ⟨_, rfl⟩
  obtain ⟨f1, hf1⟩ : ∃ f1, Hid ((rkA key l k f).2.2 = f1) := ⟨_, rfl⟩
  have hxl : x ≤ key.size := by rw [← hx.out]; exact rcU_le _ _ _ _ _
  have eT : Hid (rkT key l k f = rcT (1 - x) (64 - x) 45 l k1 f1) := by unfold rkT; rw [hx.out, hk1.out, hf1.out]; rfl
  obtain ⟨t, htt⟩ : ∃ t, Hid ((rcT (1 - x) (64 - x) 45 l k1 f1).1 = t) := ⟨_, rfl⟩
  have htl : t.size ≤ 64 - x := by rw [← htt.out]; exact rcT_size _ _ _ _ _ _
  obtain ⟨k2, hk2⟩ : ∃ k2, Hid ((rcT (1 - x) (64 - x) 45 l k1 f1).2.1 = k2) := ⟨_, rfl⟩
  obtain ⟨f2, hf2⟩ : ∃ f2, Hid ((rcT (1 - x) (64 - x) 45 l k1 f1).2.2 = f2) := ⟨_, rfl⟩
  obtain ⟨ke, hke⟩ : ∃ ke, Hid (key.extract 0 x = ke) := ⟨_, rfl⟩
  have hkl : ke.size = x := by rw [← hke.out, ByteArray.size_extract]; omega
  obtain ⟨K, hK⟩ : ∃ K, Hid (ke ++ t = K) := ⟨_, rfl⟩
  have hKl : K.size ≤ 64 := by rw [← hK.out, ByteArray.size_append]; omega
  have eK : Hid (rkK key l k f = K) := by unfold rkK; rw [hx.out, eT.out, htt.out, hke.out, hK.out]; rfl
  have hsl : ∀ V : World, (Instr.slice 9 (.string key) none (some (.int .i64 (x : Int))) none).run Tryd.prog V = .ok (.string ke) V := fun V => by
    have := run_slice_string_h V 9 key Tryd.underlying9 .i64 (x : Int) (by omega) (by omega)
    rw [← hke.out]; simpa using this
  have hadd : ∀ V : World, (Op.stringOp .add ke t).run Tryd.prog V = .ok (.string K) V := fun V => by
    rw [← hK.out]; exact run_string_add_sum V ke t (by omega)
  obtain ⟨sh, hsh⟩ : ∃ sh, Hid (shared key K = sh) := ⟨_, rfl⟩
  have hshl : sh ≤ 64 := by rw [← hsh.out]; have := shared_le key K; omega
  obtain ⟨p, hp⟩ : ∃ p, Hid (isPairB kind key K = p) := ⟨_, rfl⟩
  have EQ : Hid (rcK kind key l k f = if f2 = 0 then (if x < sh then (⟨#[]⟩, k2, 13) else if p then (K, k2, 0) else (K, k2, 45)) else (⟨#[]⟩, k2, f2)) := by
    unfold rcK; rw [eT.out, eK.out, hx.out, hk2.out, hf2.out, hsh.out, hp.out]; rfl
  have W1 : Hid (IntKind.i64.wrap (1 - (x : Int)) = 1 - (x : Int)) := by rw [Hid, IntKind.wrap_i64]; omega
  have W2 : Hid (IntKind.i64.wrap (64 - (x : Int)) = 64 - (x : Int)) := by rw [Hid, IntKind.wrap_i64]; omega
  obtain ⟨le, hle⟩ : ∃ le : Nat, Hid (1 - x = le) := ⟨_, rfl⟩
  obtain ⟨to, hto⟩ : ∃ to : Nat, Hid (64 - x = to) := ⟨_, rfl⟩
  have HS := hide h
  clear h hkl eT eK
  rw [hle.out, hto.out] at htt hk2 hf2
  go_enter Tryd.func28, Tryd.ntmps28
  go_wp2_with fail
  refine (rcUint_any key.size 45 b n cap k f sa l a _ (by decide) (by omega) HS.out).mono ?_
  rintro e w1 ⟨rfl, T1, R1⟩
  rw [show (rcU key.size 45 l k f).1 = x from hx.out]
  rw [show (rcU key.size 45 l k f).2.1 = k1 from hk1.out, show (rcU key.size 45 l k f).2.2 = f1 from hf1.out] at R1
  have HT1 := hide T1
  have HR1 := hide R1
  clear T1 R1 hx hk1 hf1
  have CT : Hid (∀ (W : World) (y z : Int), y = (le : Int) → z = (to : Int) → Rdr W b sa n cap k1 f1 l a → Calls Tryd.prog 27 #[.pointer (some ⟨b, 0, none⟩), .int .i64 y, .int .i64 z, .int .i64 45] W fun e w' => e = .returned (.string t) ∧ Touch b W w' ∧ Rdr w' b sa n cap k2 f2 l a) := fun W y z hy hz hW => by
    subst hy hz
    have := rcText_any le to 45 b n cap k1 f1 sa l a W (by decide) (by have := hle.out; omega) (by have := hto.out; omega) hW
    rwa [htt.out, hk2.out, hf2.out] at this
  clear htt hk2 hf2
  go_wp2_with fail
  all_goals
    refine (CT.out _ _ _ (by have := hle.out; omega) (by have := hto.out; omega) HR1.out).mono ?_
    rintro e w2 ⟨rfl, T2, R2⟩
    have c2 := R2.fault
    have g2 := R2.thaw
    have HT := hide (HT1.out.trans T2)
    have HR := hide R2
    clear T2 R2 HT1 HR1 CT
    by_cases hf : f2 = 0
    · subst hf
      by_cases hgt : x < sh
      · have HQ : Hid (rcK kind key l k f = (⟨#[]⟩, k2, 13)) := by rw [EQ.out, if_pos rfl, if_pos hgt]; rfl
        clear EQ
        go_wp2_with fail
        refine (rshared_any key K _ (by omega) (by omega)).mono ?_
        rintro e w3 ⟨rfl, q, rfl⟩
        rw [hsh.out]
        go_wp2
        go_ret
        rw [HQ.out]
        exact ⟨rfl, HT.out.trans (rc_break HR.out _ 13).1, (rc_break HR.out _ 13).2⟩
      · have dg : decide ((x : Int) < (sh : Int)) = false := decide_eq_false (by omega)
        cases p with
        | true =>
          have HQ : Hid (rcK kind key l k f = (K, k2, 0)) := by rw [EQ.out, if_pos rfl, if_neg hgt]; rfl
          clear EQ
          go_wp2_with fail
          refine (rshared_any key K _ (by omega) (by omega)).mono ?_
          rintro e w3 ⟨rfl, q, rfl⟩
          rw [hsh.out]
          go_wp2_with fail
          refine (rsecond_any kind key K _).mono ?_
          rintro e w3 ⟨rfl, rfl⟩
          rw [hp.out]
          go_wp2
          go_ret
          rw [HQ.out]
          exact ⟨rfl, HT.out.drewN _, HR.out.drewN _⟩
        | false =>
          have HQ : Hid (rcK kind key l k f = (K, k2, 45)) := by rw [EQ.out, if_pos rfl, if_neg hgt]; rfl
          clear EQ
          go_wp2_with fail
          refine (rshared_any key K _ (by omega) (by omega)).mono ?_
          rintro e w3 ⟨rfl, q, rfl⟩
          rw [hsh.out]
          go_wp2_with fail
          refine (rsecond_any kind key K _).mono ?_
          rintro e w3 ⟨rfl, rfl⟩
          rw [hp.out]
          go_wp2
          go_ret
          rw [HQ.out]
          exact ⟨rfl, HT.out.trans (rc_break HR.out _ 45).1, (rc_break HR.out _ 45).2⟩
    · have HQ : Hid (rcK kind key l k f = (⟨#[]⟩, k2, f2)) := by rw [EQ.out, if_neg hf]; rfl
      have hb : (f2 != 0) = true := by rw [bne_iff_ne]; exact hf
      clear EQ hf
      go_wp2
      go_ret
      rw [HQ.out]
      exact ⟨rfl, HT.out, HR.out⟩
end Go.Proofs.YtpjdgbhjjknopaaDoor
