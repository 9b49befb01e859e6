/- Texts of the proof, joined. -/
import Derived.Test.YtpjdgbhjjknopaaDoorRows
import Derived.Test.YtpjdgbhjjknopaaDoorJ13
import Derived.Test.YtpjdgbhjjknopaaDoorJ14
import Derived.WalkKit
import Derived.WalkLawsBesides
import Derived.Deep.QuietTactic
import Derived.BigQuiet
import Derived.Deep.RegionHeld3
/- The contracts of package command's isVersion, isKind, isZero, isAllowed, faultOf, isKey, isPair, mostVal. -/
namespace Go.Proofs.YtpjdgbhjjknopaaDoor
open Go.RowKit Go.Wire1

/-- The table of kinds lies in memory. -/
def Knd (w : World) : Prop := ∀ i, i < 9 → w.cell? ⟨0, i * 2, none⟩ = some (.int .i64 (fieldsL.getD i 0 : Nat)) ∧ w.cell? ⟨0, i * 2 + 1, none⟩ = some (.int .i64 (fromL.getD i 0 : Nat))
theorem Knd.lt {w : World} (h : Knd w) : 0 < w.heap.size := cell_lt (h 0 (by omega)).1
theorem Knd.below {w w' : World} {B : Nat} (h : Knd w) (hb : Below B w w') (hB : w.heap.size ≤ B) : Knd w' := by
  have hl := h.lt
  intro i hi
  obtain ⟨h1, h2⟩ := h i hi
  exact ⟨by rw [hb.cell (p := ⟨0, i * 2, none⟩) (Nat.lt_of_lt_of_le hl hB)]; exact h1, by rw [hb.cell (p := ⟨0, i * 2 + 1, none⟩) (Nat.lt_of_lt_of_le hl hB)]; exact h2⟩

set_option maxHeartbeats 400000 in
set_option maxRecDepth 100000 in
theorem isVersion_any (v : Int) (w : World) :
    Calls Tryd.prog 12 #[.int .i64 v] w fun e w' => e = .returned (.bool (isVer v)) ∧ w = w' := by
  cases h1 : (v == 1) with
  | true =>
    have HR : Hid (isVer v = true) := by simp [Hid, isVer, h1]
    go_enter Tryd.func12, Tryd.ntmps12
    go_wp2
    go_ret
    exact ⟨by rw [HR.out]; rfl, rfl⟩
  | false =>
    have HR : Hid (isVer v = (v == 2)) := by simp [Hid, isVer, h1]
    go_enter Tryd.func12, Tryd.ntmps12
    go_wp2
    go_ret
    exact ⟨by rw [HR.out]; rfl, rfl⟩

set_option maxHeartbeats 400000 in
set_option maxRecDepth 100000 in
theorem isKind_any (v kind : Int) (w : World) (hK : Knd w) :
    Calls Tryd.prog 33 #[.int .i64 v, .int .i64 kind] w fun e w' => e = .returned (.bool (isKd v kind)) ∧ w = w' := by
  by_cases h1 : 0 ≤ kind
  · by_cases h2 : kind < 9
    · obtain ⟨k, rfl⟩ := Int.eq_ofNat_of_zero_le h1
      have h3 : k < 9 := by omega
      obtain ⟨_, hc⟩ := hK k h3
      have HR : Hid (isKd v (k : Int) = decide ((fromL.getD k 0 : Int) ≤ v)) := by simp [Hid, isKd, h2]
      generalize fromL.getD k 0 = fr at *
      go_enter Tryd.func33, Tryd.ntmps33
      go_wp2
      go_ret
      exact ⟨by rw [HR.out]; rfl, rfl⟩
    · have HR : Hid (isKd v kind = false) := by simp [Hid, isKd, h2]
      go_enter Tryd.func33, Tryd.ntmps33
      go_wp2
      go_ret
      exact ⟨by rw [HR.out]; first | rfl | (simp; omega), rfl⟩
  · have HR : Hid (isKd v kind = false) := by simp [Hid, isKd, h1]
    go_enter Tryd.func33, Tryd.ntmps33
    go_wp2
    go_ret
    exact ⟨by rw [HR.out]; first | rfl | (simp; omega), rfl⟩

set_option maxHeartbeats 400000 in
set_option maxRecDepth 100000 in
theorem isPair_any (kind : Int) (k k2 : ByteArray) (w : World) :
    Calls Tryd.prog 38 #[.int .i64 kind, .string k, .string k2] w fun e w' => e = .returned (.bool (isPairB kind k k2)) ∧ w = w' := by
  by_cases h1 : kind = 8
  · subst h1
    have HR : Hid (isPairB 8 k k2 = Op.bytesLess k.toList k2.toList) := by simp [Hid, isPairB, tlt]
    go_enter Tryd.func38, Tryd.ntmps38
    go_wp2
    go_ret
    exact ⟨by rw [HR.out]; rfl, rfl⟩
  · have HR : Hid (isPairB kind k k2 = !(k.toList == k2.toList)) := by simp [Hid, isPairB, teq, h1]
    have g1 : (kind == 8) = false := by simpa using h1
    go_enter Tryd.func38, Tryd.ntmps38
    go_wp2
    go_ret
    exact ⟨by rw [HR.out]; rfl, rfl⟩

set_option maxHeartbeats 400000 in
set_option maxRecDepth 100000 in
theorem mostVal_any (v : Int) (w : World) :
    Calls Tryd.prog 24 #[.int .i64 v] w fun e w' => e = .returned (.int .i64 (mostV v : Nat)) ∧ w = w' := by
  by_cases h1 : v = 1
  · subst h1
    go_enter Tryd.func24, Tryd.ntmps24
    go_wp2
    go_ret
    exact ⟨rfl, rfl⟩
  · have HR : Hid (mostV v = 65536) := by simp [Hid, mostV, h1]
    have g1 : (v == 1) = false := by simpa using h1
    go_enter Tryd.func24, Tryd.ntmps24
    go_wp2
    go_ret
    exact ⟨by rw [HR.out]; rfl, rfl⟩

end Go.Proofs.YtpjdgbhjjknopaaDoor
