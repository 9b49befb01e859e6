/- The contract of entryFrom: a difference, and the entry that it makes. -/
import Derived.Test.YtooejihnifphkaaGreatDoorVUnp
namespace Go.Proofs.YtooejihnifphkaaGreatDoor
open Go.RowKit Go.Wire1

def enY : Except Nat (Int × Nat) → Int
  | .ok (y, _) => y
  | .error _ => 0
def enM : Except Nat (Int × Nat) → Nat
  | .ok (_, m) => m
  | .error _ => 0
def enE : Except Nat (Int × Nat) → Nat
  | .ok _ => 0
  | .error e => e

set_option maxHeartbeats 1000000 in
set_option maxRecDepth 100000 in
theorem entryFrom_any (q : Int) (m cap : Nat) (sa : Option Addr) (l : List Int) (a : Nat → Addr) (w : World) (hq : 0 ≤ q ∧ q ≤ 1048576) (hs : Seg w sa m l) (hy : Byt l) (he : Errs w a) :
    Calls Tryz.prog 111 #[.int .i64 q, .slice sa m cap] w fun e w' => e = .returned (.tuple #[.int .i64 (enY (entry q l)), .int .i64 (enM (entry q l) : Int), .int .i64 (enE (entry q l) : Int)]) ∧ Below w.heap.size w w' := by
  have HS : Hid (Seg w sa m l) := hs
  have HE : Hid (Errs w a) := he
  have HY : Hid (Byt l) := hy
  obtain ⟨R, hR⟩ : ∃ R, Hid (entry q l = R) := ⟨_, rfl⟩
  rw [hR.out]
  clear hs he hy
  cases hd : dec l with
  | error i =>
    have hi3 := dec_err hd
    have HQ : Hid (R = .error (11 + i)) := by show _ = _; rw [← hR.out]; unfold entry; rw [hd]
    have HD : Hid (dec l = .error i) := hd
    have hne : ((11 + (i : Int)) != 0) = true := by rw [bne_iff_ne]; omega
    clear hd hR
    go_enter Tryz.func111, Tryz.ntmps111
    go_wp2_with fail
    refine (getI_bad (Below.refl w.heap.size w) (Nat.le_refl _) HS.out HY.out HE.out HD.out).mono ?_
    rintro e w2 ⟨rfl, hb2, -⟩
    have HB2 : Hid (Below w.heap.size w w2) := hb2
    clear hb2
    go_wp2
    go_ret3
    exact ⟨by rw [HQ.out]; rfl, HB2.out⟩
  | ok p =>
    obtain ⟨u, k⟩ := p
    have hu := dec_lt HY.out hd
    have hub := unzig_bd u hu
    have HD : Hid (dec l = .ok (u, k)) := hd
    have HF : Hid (R = if unzig u = 0 then .error 34 else if unzig u < -q ∨ 1048576 - q < unzig u then .error 32 else .ok (q + unzig u, k)) := by show _ = _; rw [← hR.out]; unfold entry; rw [hd]
    clear hd hR hu
    obtain ⟨d, hdd⟩ : ∃ d, Hid (unzig u = d) := ⟨_, rfl⟩
    rw [hdd.out] at HF hub
    by_cases h0 : d = 0
    · subst h0
      have HQ : Hid (R = .error 34) := by show _ = _; rw [HF.out, if_pos rfl]
      go_enter Tryz.func111, Tryz.ntmps111
      go_wp2_with fail
      refine (getI_ok (Below.refl w.heap.size w) (Nat.le_refl _) HS.out HY.out HE.out HD.out).mono ?_
      rintro e w2 ⟨rfl, hb2, -⟩
      have HB2 : Hid (Below w.heap.size w w2) := hb2
      rw [hdd.out]
      clear hb2
      go_wp2
      go_ret3
      exact ⟨by rw [HQ.out]; rfl, HB2.out⟩
    · have hz : (d == 0) = false := beq_eq_false_iff_ne.2 h0
      by_cases h1 : d < -q
      · have HQ : Hid (R = .error 32) := by show _ = _; rw [HF.out, if_neg h0, if_pos (.inl h1)]
        go_enter Tryz.func111, Tryz.ntmps111
        go_wp2_with fail
        refine (getI_ok (Below.refl w.heap.size w) (Nat.le_refl _) HS.out HY.out HE.out HD.out).mono ?_
        rintro e w2 ⟨rfl, hb2, -⟩
        have HB2 : Hid (Below w.heap.size w w2) := hb2
        rw [hdd.out]
        clear hb2 h0
        go_wp2
        go_ret3
        exact ⟨by rw [HQ.out]; rfl, HB2.out⟩
      · by_cases h2 : 1048576 - q < d
        · have HQ : Hid (R = .error 32) := by show _ = _; rw [HF.out, if_neg h0, if_pos (.inr h2)]
          go_enter Tryz.func111, Tryz.ntmps111
          go_wp2_with fail
          refine (getI_ok (Below.refl w.heap.size w) (Nat.le_refl _) HS.out HY.out HE.out HD.out).mono ?_
          rintro e w2 ⟨rfl, hb2, -⟩
          have HB2 : Hid (Below w.heap.size w w2) := hb2
          rw [hdd.out]
          clear hb2 h0
          go_wp2
          go_ret3
          exact ⟨by rw [HQ.out]; rfl, HB2.out⟩
        · have HQ : Hid (R = .ok (q + d, k)) := by show _ = _; rw [HF.out, if_neg h0, if_neg (by omega)]
          go_enter Tryz.func111, Tryz.ntmps111
          go_wp2_with fail
          refine (getI_ok (Below.refl w.heap.size w) (Nat.le_refl _) HS.out HY.out HE.out HD.out).mono ?_
          rintro e w2 ⟨rfl, hb2, -⟩
          have HB2 : Hid (Below w.heap.size w w2) := hb2
          rw [hdd.out]
          clear hb2 h0
          go_wp2
          go_ret3
          exact ⟨by rw [HQ.out]; rfl, HB2.out⟩
theorem entryFrom_res {q : Int} {m cap : Nat} {sa : Option Addr} {l : List Int} {a : Nat → Addr} {w w0 : World} {B : Nat} (hb : Below B w0 w) (hB : B ≤ w0.heap.size) (hq : 0 ≤ q ∧ q ≤ 1048576) (hs : Seg w sa m l) (hy : Byt l) (he : Errs w a) {r : Except Nat (Int × Nat)} (hr : entry q l = r) :
    Calls Tryz.prog 111 #[.int .i64 q, .slice sa m cap] w fun e w' => e = .returned (.tuple #[.int .i64 (enY r), .int .i64 (enM r : Int), .int .i64 (enE r : Int)]) ∧ Below B w0 w' ∧ Below w.heap.size w w' :=
  (entryFrom_any q m cap sa l a w hq hs hy he).mono fun e w' ⟨h1, h2⟩ => by rw [hr] at h1; exact ⟨h1, hb.on h2 hB, h2⟩
end Go.Proofs.YtooejihnifphkaaGreatDoor
