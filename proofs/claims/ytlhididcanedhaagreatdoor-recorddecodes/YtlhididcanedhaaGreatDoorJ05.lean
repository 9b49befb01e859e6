/- Texts of the proof, joined. -/
import Derived.Test.YtlhididcanedhaaGreatDoorRows
import Derived.Test.YtlhididcanedhaaGreatDoorJ02
import Derived.Test.YtlhididcanedhaaGreatDoorJ03
import Derived.WalkKit
import Derived.WalkLawsBesides
import Derived.Deep.QuietTactic
import Derived.BigQuiet
import Derived.Deep.RegionHeld3
import Derived.Test.YtlhididcanedhaaGreatDoorJ01
/- The contracts of package command's isVersion, isKind, isZero, isAllowed, faultOf, isKey, isPair, mostVal. -/
namespace Go.Proofs.YtlhididcanedhaaGreatDoor
open Go.RowKit Go.Wire1

/-- The table of kinds lies in memory. -/
def Knd (w : World) : Prop := ∀ i, i < 9 → w.cell? ⟨1, i * 2, none⟩ = some (.int .i64 (fieldsL.getD i 0 : Nat)) ∧ w.cell? ⟨1, i * 2 + 1, none⟩ = some (.int .i64 (fromL.getD i 0 : Nat))
theorem Knd.lt {w : World} (h : Knd w) : 1 < w.heap.size := cell_lt (h 0 (by omega)).1
theorem Knd.below {w w' : World} {B : Nat} (h : Knd w) (hb : Below B w w') (hB : w.heap.size ≤ B) : Knd w' := by
  have hl := h.lt
  intro i hi
  obtain ⟨h1, h2⟩ := h i hi
  exact ⟨by rw [hb.cell (p := ⟨1, i * 2, none⟩) (Nat.lt_of_lt_of_le hl hB)]; exact h1, by rw [hb.cell (p := ⟨1, i * 2 + 1, none⟩) (Nat.lt_of_lt_of_le hl hB)]; exact h2⟩

set_option maxHeartbeats 400000 in
set_option maxRecDepth 100000 in
theorem isVersion_any (v : Int) (w : World) :
    Calls Tryz.prog 110 #[.int .i64 v] w fun e w' => e = .returned (.bool (isVer v)) ∧ w = w' := by
  cases h1 : (v == 1) with
  | true =>
    have HR : Hid (isVer v = true) := by simp [Hid, isVer, h1]
    go_enter Tryz.func110, Tryz.ntmps110
    go_wp2
    go_ret
    exact ⟨by rw [HR.out]; rfl, rfl⟩
  | false =>
    have HR : Hid (isVer v = (v == 2)) := by simp [Hid, isVer, h1]
    go_enter Tryz.func110, Tryz.ntmps110
    go_wp2
    go_ret
    exact ⟨by rw [HR.out]; rfl, rfl⟩

set_option maxHeartbeats 400000 in
set_option maxRecDepth 100000 in
theorem isKind_any (v kind : Int) (w : World) (hK : Knd w) :
    Calls Tryz.prog 111 #[.int .i64 v, .int .i64 kind] w fun e w' => e = .returned (.bool (isKd v kind)) ∧ w = w' := by
  by_cases h1 : 0 ≤ kind
  · by_cases h2 : kind < 9
    · obtain ⟨k, rfl⟩ := Int.eq_ofNat_of_zero_le h1
      have h3 : k < 9 := by omega
      obtain ⟨_, hc⟩ := hK k h3
      have HR : Hid (isKd v (k : Int) = decide ((fromL.getD k 0 : Int) ≤ v)) := by simp [Hid, isKd, h2]
      generalize fromL.getD k 0 = fr at *
      go_enter Tryz.func111, Tryz.ntmps111
      go_wp2
      go_ret
      exact ⟨by rw [HR.out]; rfl, rfl⟩
    · have HR : Hid (isKd v kind = false) := by simp [Hid, isKd, h2]
      go_enter Tryz.func111, Tryz.ntmps111
      go_wp2
      go_ret
      exact ⟨by rw [HR.out]; first | rfl | (simp; omega), rfl⟩
  · have HR : Hid (isKd v kind = false) := by simp [Hid, isKd, h1]
    go_enter Tryz.func111, Tryz.ntmps111
    go_wp2
    go_ret
    exact ⟨by rw [HR.out]; first | rfl | (simp; omega), rfl⟩

set_option maxHeartbeats 400000 in
set_option maxRecDepth 100000 in
theorem isKey_any (k : ByteArray) (w : World) (hk : k.size ≤ 140737488351232) :
    Calls Tryz.prog 142 #[.string k] w fun e w' => e = .returned (.bool (isKeyB k)) ∧ w = w' := by
  by_cases h1 : 1 ≤ k.size
  · have HR : Hid (isKeyB k = decide ((k.size : Int) ≤ 64)) := by
      unfold isKeyB; rw [decide_eq_true h1, Bool.true_and, Hid]
      exact decide_eq_decide.2 (by omega)
    go_enter Tryz.func142, Tryz.ntmps142
    go_wp2
    go_ret
    exact ⟨by rw [HR.out]; rfl, rfl⟩
  · have HR : Hid (isKeyB k = false) := by simp [Hid, isKeyB, h1]
    go_enter Tryz.func142, Tryz.ntmps142
    go_wp2
    go_ret
    exact ⟨by rw [HR.out]; first | rfl | (simp; omega), rfl⟩
set_option maxHeartbeats 400000 in
set_option maxRecDepth 100000 in
theorem isPair_any (kind : Int) (k k2 : ByteArray) (w : World) :
    Calls Tryz.prog 143 #[.int .i64 kind, .string k, .string k2] w fun e w' => e = .returned (.bool (isPairB kind k k2)) ∧ w = w' := by
  by_cases h1 : kind = 8
  · subst h1
    have HR : Hid (isPairB 8 k k2 = Op.bytesLess k.toList k2.toList) := by simp [Hid, isPairB, tlt]
    go_enter Tryz.func143, Tryz.ntmps143
    go_wp2
    go_ret
    exact ⟨by rw [HR.out]; rfl, rfl⟩
  · have HR : Hid (isPairB kind k k2 = !(k.toList == k2.toList)) := by simp [Hid, isPairB, teq, h1]
    have g1 : (kind == 8) = false := by simpa using h1
    go_enter Tryz.func143, Tryz.ntmps143
    go_wp2
    go_ret
    exact ⟨by rw [HR.out]; rfl, rfl⟩

set_option maxHeartbeats 400000 in
set_option maxRecDepth 100000 in
theorem mostVal_any (v : Int) (w : World) :
    Calls Tryz.prog 144 #[.int .i64 v] w fun e w' => e = .returned (.int .i64 (mostV v : Nat)) ∧ w = w' := by
  by_cases h1 : v = 1
  · subst h1
    go_enter Tryz.func144, Tryz.ntmps144
    go_wp2
    go_ret
    exact ⟨rfl, rfl⟩
  · have HR : Hid (mostV v = 65536) := by simp [Hid, mostV, h1]
    have g1 : (v == 1) = false := by simpa using h1
    go_enter Tryz.func144, Tryz.ntmps144
    go_wp2
    go_ret
    exact ⟨by rw [HR.out]; rfl, rfl⟩

set_option maxHeartbeats 1000000 in
set_option maxRecDepth 100000 in
theorem isZero_any (c : Cm) (f : Nat) (w : World) (hf : f < 7) :
    Calls Tryz.prog 112 #[.agg #[.int .i64 c.kind, .int .i64 c.client, .int .i64 c.req, .string c.key, .string c.key2, .string c.val, .string c.old, .int .i64 c.n], .int .i64 (bitF f)] w fun e w' => e = .returned (.bool (zeroF c f)) ∧ Below w.heap.size w w' := by
  have B : ∀ (o : Obj), Below w.heap.size w (w.alloc o) := fun o => (Below.refl _ _).alloc (Nat.le_refl _) _
  rcases (by omega : f = 0 ∨ f = 1 ∨ f = 2 ∨ f = 3 ∨ f = 4 ∨ f = 5 ∨ f = 6) with rfl | rfl | rfl | rfl | rfl | rfl | rfl
  all_goals
    (first | rw [show bitF 0 = 1 from rfl] | rw [show bitF 1 = 2 from rfl] | rw [show bitF 2 = 4 from rfl] | rw [show bitF 3 = 8 from rfl] | rw [show bitF 4 = 16 from rfl] | rw [show bitF 5 = 32 from rfl] | rw [show bitF 6 = 64 from rfl])
    go_enter Tryz.func112, Tryz.ntmps112
    go_wp2
    go_ret
    exact ⟨rfl, B _⟩
set_option maxHeartbeats 1000000 in
set_option maxRecDepth 100000 in
theorem faultOf_any (f : Nat) (w : World) (hf : f < 7) :
    Calls Tryz.prog 114 #[.int .i64 (bitF f)] w fun e w' => e = .returned (.int .i64 (errF f : Nat)) ∧ w = w' := by
  rcases (by omega : f = 0 ∨ f = 1 ∨ f = 2 ∨ f = 3 ∨ f = 4 ∨ f = 5 ∨ f = 6) with rfl | rfl | rfl | rfl | rfl | rfl | rfl
  all_goals
    (first | rw [show bitF 0 = 1 from rfl] | rw [show bitF 1 = 2 from rfl] | rw [show bitF 2 = 4 from rfl] | rw [show bitF 3 = 8 from rfl] | rw [show bitF 4 = 16 from rfl] | rw [show bitF 5 = 32 from rfl] | rw [show bitF 6 = 64 from rfl])
    go_enter Tryz.func114, Tryz.ntmps114
    go_wp2
    go_ret
    exact ⟨rfl, rfl⟩
set_option maxHeartbeats 2000000 in
set_option maxRecDepth 100000 in
theorem isAllowed_any (v : Int) (c : Cm) (f : Nat) (w : World) (hf : f < 7) (hk : c.key.size ≤ 140737488351232) (hk2 : c.key2.size ≤ 140737488351232) :
    Calls Tryz.prog 113 #[.int .i64 v, .agg #[.int .i64 c.kind, .int .i64 c.client, .int .i64 c.req, .string c.key, .string c.key2, .string c.val, .string c.old, .int .i64 c.n], .int .i64 (bitF f)] w fun e w' => e = .returned (.bool (allowF v c f)) ∧ Below w.heap.size w w' := by
  have B : ∀ (o : Obj), Below w.heap.size w (w.alloc o) := fun o => (Below.refl _ _).alloc (Nat.le_refl _) _
  rcases (by omega : f = 0 ∨ f = 1 ∨ f = 2 ∨ f = 3 ∨ f = 4 ∨ f = 5 ∨ f = 6) with rfl | rfl | rfl | rfl | rfl | rfl | rfl
  · rw [show bitF 0 = 1 from rfl]
    by_cases h1 : 0 ≤ c.client
    · go_enter Tryz.func113, Tryz.ntmps113
      go_wp2
      go_ret
      exact ⟨by simp [allowF, h1], B _⟩
    · go_enter Tryz.func113, Tryz.ntmps113
      go_wp2
      go_ret
      exact ⟨by simp [allowF]; omega, B _⟩
  · rw [show bitF 1 = 2 from rfl]
    by_cases h1 : 0 ≤ c.req
    · go_enter Tryz.func113, Tryz.ntmps113
      go_wp2
      go_ret
      exact ⟨by simp [allowF, h1], B _⟩
    · go_enter Tryz.func113, Tryz.ntmps113
      go_wp2
      go_ret
      exact ⟨by simp [allowF]; omega, B _⟩
  · rw [show bitF 2 = 4 from rfl]
    go_enter Tryz.func113, Tryz.ntmps113
    go_wp2_with fail
    refine (isKey_any c.key _ hk).mono ?_
    rintro e w1 ⟨rfl, rfl⟩
    go_wp2
    go_ret
    exact ⟨rfl, B _⟩
  · rw [show bitF 3 = 8 from rfl]
    cases h1 : isKeyB c.key2 with
    | true =>
      go_enter Tryz.func113, Tryz.ntmps113
      go_wp2_with fail
      refine (isKey_any c.key2 _ hk2).mono ?_
      rintro e w1 ⟨rfl, rfl⟩
      rw [h1]
      go_wp2_with fail
      refine (isPair_any c.kind c.key c.key2 _).mono ?_
      rintro e w1 ⟨rfl, rfl⟩
      go_wp2
      go_ret
      exact ⟨by simp [allowF, h1], B _⟩
    | false =>
      go_enter Tryz.func113, Tryz.ntmps113
      go_wp2_with fail
      refine (isKey_any c.key2 _ hk2).mono ?_
      rintro e w1 ⟨rfl, rfl⟩
      rw [h1]
      go_wp2
      go_ret
      exact ⟨by simp [allowF, h1], B _⟩
  · rw [show bitF 4 = 16 from rfl]
    obtain ⟨V, hV⟩ : ∃ V, V = w.alloc (.cells #[.int .i64 c.kind, .int .i64 c.client, .int .i64 c.req, .string c.key, .string c.key2, .string c.val, .string c.old, .int .i64 c.n] 27) := ⟨_, rfl⟩
    have c5 : V.cell? ⟨w.heap.size, 5, none⟩ = some (.string c.val) := by rw [hV]; simp [go_sem]
    have BV : Hid (Below w.heap.size w V) := by rw [hV]; exact B _
    go_enter Tryz.func113, Tryz.ntmps113
    go_wp2
    rw [← hV]
    clear hV
    go_region_held3 (fun w' => w'.cell? ⟨w.heap.size, 5, none⟩ = some (.string c.val)) (first | go_keep) (first | (go_at_call 144; refine (mostVal_any v _).mono ?_; rintro e w1 ⟨rfl, rfl⟩))
    go_wp2
    go_ret
    exact ⟨by simp [allowF], BV.out.drew⟩
  · rw [show bitF 5 = 32 from rfl]
    obtain ⟨V, hV⟩ : ∃ V, V = w.alloc (.cells #[.int .i64 c.kind, .int .i64 c.client, .int .i64 c.req, .string c.key, .string c.key2, .string c.val, .string c.old, .int .i64 c.n] 27) := ⟨_, rfl⟩
    have c6 : V.cell? ⟨w.heap.size, 6, none⟩ = some (.string c.old) := by rw [hV]; simp [go_sem]
    have BV : Hid (Below w.heap.size w V) := by rw [hV]; exact B _
    go_enter Tryz.func113, Tryz.ntmps113
    go_wp2
    rw [← hV]
    clear hV
    go_region_held3 (fun w' => w'.cell? ⟨w.heap.size, 6, none⟩ = some (.string c.old)) (first | go_keep) (first | (go_at_call 144; refine (mostVal_any v _).mono ?_; rintro e w1 ⟨rfl, rfl⟩))
    go_wp2
    go_ret
    exact ⟨by simp [allowF], BV.out.drew⟩
  · rw [show bitF 6 = 64 from rfl]
    go_enter Tryz.func113, Tryz.ntmps113
    go_wp2
    go_ret
    exact ⟨rfl, B _⟩
end Go.Proofs.YtlhididcanedhaaGreatDoor
/- A command in a block of its own. -/
namespace Go.Proofs.YtlhididcanedhaaGreatDoor
open Go.RowKit Go.Wire1

/-- A command in a block of its own. -/
def CBox (w : World) (g : Nat) (kind client req : Int) (key key2 val old : ByteArray) (n : Int) : Prop :=
  w.cell? ⟨g, 0, none⟩ = some (.int .i64 kind) ∧ w.cell? ⟨g, 1, none⟩ = some (.int .i64 client) ∧ w.cell? ⟨g, 2, none⟩ = some (.int .i64 req) ∧ w.cell? ⟨g, 3, none⟩ = some (.string key) ∧ w.cell? ⟨g, 4, none⟩ = some (.string key2) ∧ w.cell? ⟨g, 5, none⟩ = some (.string val) ∧ w.cell? ⟨g, 6, none⟩ = some (.string old) ∧ w.cell? ⟨g, 7, none⟩ = some (.int .i64 n)
theorem CBox.below {w w' : World} {g B : Nat} {kind client req : Int} {key key2 val old : ByteArray} {n : Int} (h : CBox w g kind client req key key2 val old n) (hb : Below B w w') (hB : w.heap.size ≤ B) : CBox w' g kind client req key key2 val old n := by
  have hg : g < w.heap.size := cell_lt h.1
  have key : ∀ o, w'.cell? ⟨g, o, none⟩ = w.cell? ⟨g, o, none⟩ := fun o => hb.cell (p := ⟨g, o, none⟩) (by show g < B; omega)
  unfold CBox
  rw [key, key, key, key, key, key, key, key]
  exact h
theorem CBox.drewN {w : World} {g : Nat} {kind client req : Int} {key key2 val old : ByteArray} {n : Int} (h : CBox w g kind client req key key2 val old n) (q : Nat) : CBox (w.drewN q) g kind client req key key2 val old n := h
theorem cbox_new (w : World) (t : TypeId) (kind client req : Int) (key key2 val old : ByteArray) (n : Int) : CBox (w.alloc (.cells #[.int .i64 kind, .int .i64 client, .int .i64 req, .string key, .string key2, .string val, .string old, .int .i64 n] t)) w.heap.size kind client req key key2 val old n := by
  refine ⟨?_, ?_, ?_, ?_, ?_, ?_, ?_, ?_⟩ <;> simp [go_sem]
end Go.Proofs.YtlhididcanedhaaGreatDoor
/- The contract of package command's Check. -/
namespace Go.Proofs.YtlhididcanedhaaGreatDoor
open Go.RowKit Go.Wire1

theorem ver_cases {v : Int} (h : isVer v = true) : v = 1 ∨ v = 2 := by simpa [isVer] using h
theorem kd_lt {v kind : Int} (h : isKd v kind = true) : 0 ≤ kind ∧ kind < 9 := by
  simp only [isKd, Bool.and_eq_true, decide_eq_true_eq] at h
  exact ⟨h.1, h.2.1⟩

set_option maxHeartbeats 4000000 in
set_option maxRecDepth 100000 in
theorem check_any (v : Int) (c : Cm) (w : World) (hK : Knd w) (hk : c.key.size ≤ 140737488351232) (hk2 : c.key2.size ≤ 140737488351232) :
    Calls Tryz.prog 78 #[.int .i64 v, .agg #[.int .i64 c.kind, .int .i64 c.client, .int .i64 c.req, .string c.key, .string c.key2, .string c.val, .string c.old, .int .i64 c.n]] w fun e w' => e = .returned (.int .i64 (chk v c : Nat)) ∧ Below w.heap.size w w' := by
  obtain ⟨V, hV⟩ : ∃ V, V = w.alloc (.cells #[.int .i64 c.kind, .int .i64 c.client, .int .i64 c.req, .string c.key, .string c.key2, .string c.val, .string c.old, .int .i64 c.n] 27) := ⟨_, rfl⟩
  have X : Hid (CBox V w.heap.size c.kind c.client c.req c.key c.key2 c.val c.old c.n) := by rw [hV]; exact cbox_new w 27 _ _ _ _ _ _ _ _
  have BV : Hid (Below w.heap.size w V) := by rw [hV]; exact (Below.refl _ _).alloc (Nat.le_refl _) _
  have hVs : w.heap.size ≤ V.heap.size := BV.out.size
  have HK : Hid (Knd V) := hK.below BV.out (Nat.le_refl _)
  have x0 := X.out.1
  cases h1 : isVer v with
  | false =>
    have HR : Hid (chk v c = 2) := by simp [Hid, chk, h1]
    go_enter Tryz.func78, Tryz.ntmps78
    go_wp2_with fail
    rw [← hV]
    refine (isVersion_any v _).mono ?_
    rintro e w1 ⟨rfl, rfl⟩
    rw [h1]
    clear h1 hV x0
    go_wp2
    go_ret
    exact ⟨by rw [HR.out]; rfl, BV.out⟩
  | true =>
    have HV2 := hide (ver_cases h1)
    cases h2 : isKd v c.kind with
    | false =>
      have HR : Hid (chk v c = 41) := by simp [Hid, chk, h1, h2]
      go_enter Tryz.func78, Tryz.ntmps78
      go_wp2_with fail
      rw [← hV]
      refine (isVersion_any v _).mono ?_
      rintro e w1 ⟨rfl, rfl⟩
      rw [h1]
      clear h1 hV
      go_wp2_with fail
      refine (isKind_any v c.kind _ HK.out).mono ?_
      rintro e w1 ⟨rfl, rfl⟩
      rw [h2]
      clear h2 x0
      go_wp2
      go_ret
      exact ⟨by rw [HR.out]; rfl, BV.out⟩
    | true =>
      have HR : Hid (chk v c = firstF v c 7 0) := by simp [Hid, chk, h1, h2]
      obtain ⟨k0, k9⟩ := kd_lt h2
      obtain ⟨k, hkk⟩ := Int.eq_ofNat_of_zero_le k0
      have hk9 : k < 9 := by omega
      obtain ⟨hF, _⟩ := HK.out k hk9
      have hFl := fields_lt k
      have HH : Hid (∀ f, hasF c.kind f = (fieldsL.getD k 0).testBit f) := fun f => by unfold hasF; rw [hkk]; rfl
      generalize fieldsL.getD k 0 = F at *
      have hkk' : Hid (c.kind = (k : Int)) := hkk
      clear hkk k0 k9
      go_enter Tryz.func78, Tryz.ntmps78
      go_wp2_with fail
      rw [← hV]
      refine (isVersion_any v _).mono ?_
      rintro e w1 ⟨rfl, rfl⟩
      rw [h1]
      clear h1 hV
      go_wp2_with fail
      refine (isKind_any v c.kind _ HK.out).mono ?_
      rintro e w1 ⟨rfl, rfl⟩
      rw [h2]
      clear h2
      rw [hkk'.out] at x0
      go_wp2_with fail
      go_loopw [6] (fun x wr => ∃ f : Nat, x = .int .i64 (bitF f) ∧ f ≤ 7 ∧ Hid (firstF v c 7 0 = firstF v c (7 - f) f) ∧ Hid (Below V.heap.size V wr)) (fun x _ => 200 - (intOf x).toNat)
      case atStart => exact ⟨0, rfl, by omega, rfl, Below.refl _ _⟩
      case round =>
        obtain ⟨f, rfl, hf, HF, HB⟩ := hrel
        have hws := HB.out.size
        by_cases hf7 : f < 7
        · have hy : bitF f ≤ 64 ∧ 1 ≤ bitF f ∧ bitF (f + 1) = bitF f * 2 := by
            rcases (by omega : f = 0 ∨ f = 1 ∨ f = 2 ∨ f = 3 ∨ f = 4 ∨ f = 5 ∨ f = 6) with rfl | rfl | rfl | rfl | rfl | rfl | rfl <;> decide
          have hbt := bits_has F f hFl hf7
          rw [← HH.out f] at hbt
          obtain ⟨x0', x1, x2, x3, x4, x5, x6, x7⟩ := X.out.below HB.out (Nat.le_refl _)
          obtain ⟨y, hyy⟩ : ∃ y, Hid (bitF f = y) := ⟨_, rfl⟩
          have hy2 := hide hy.2.2
          obtain ⟨hy64, hy1, _⟩ := hy
          rw [hyy.out] at hbt hy64 hy1 ⊢
          have hne : (y == 0) = false := by rw [beq_eq_false_iff_ne]; omega
          cases hh : hasF c.kind f with
          | true =>
            rw [hh, if_pos rfl] at hbt
            go_wp2_with fail
            rw [← hyy.out]
            refine (isAllowed_any v c f _ hf7 hk hk2).mono ?_
            rintro e w5 ⟨rfl, hb5⟩
            rw [hyy.out]
            have B5 : Hid (Below V.heap.size V w5) := HB.out.trans (hb5.mono hws)
            cases ha : allowF v c f with
            | true =>
              have HN := hide (firstF_next hf7 HF.out (by simp [faultF, hh, ha]))
              clear hb5 hh ha
              go_wp2
              go_roundw
              case rel => exact ⟨f + 1, by rw [hy2.out, hyy.out], by omega, HN, B5⟩
              case measure => simp [intOf]; omega
            | false =>
              by_cases hf6 : f = 6
              · subst hf6; simp [allowF] at ha
              · have HN : Hid (chk v c = errF f) := by
                  rw [HR.out, firstF_hit hf7 HF.out (by simp [faultF, hh, ha, errF, hf6])]
                  simp [Hid, faultF, hh, ha]
                clear hb5 hh ha
                go_wp2_with fail
                rw [← hyy.out]
                refine (faultOf_any f _ hf7).mono ?_
                rintro e w6 ⟨rfl, rfl⟩
                go_wp2
                go_ret
                exact ⟨by rw [HN.out]; rfl, BV.out.trans (B5.out.mono hVs)⟩
          | false =>
            rw [hh] at hbt
            simp only [Bool.false_eq_true, if_false] at hbt
            go_wp2_with fail
            rw [← hyy.out]
            refine (isZero_any c f _ hf7).mono ?_
            rintro e w5 ⟨rfl, hb5⟩
            rw [hyy.out]
            have B5 : Hid (Below V.heap.size V w5) := HB.out.trans (hb5.mono hws)
            cases ha : zeroF c f with
            | true =>
              have HN := hide (firstF_next hf7 HF.out (by simp [faultF, hh, ha]))
              clear hb5 hh ha
              go_wp2
              go_roundw
              case rel => exact ⟨f + 1, by rw [hy2.out, hyy.out], by omega, HN, B5⟩
              case measure => simp [intOf]; omega
            | false =>
              have HN : Hid (chk v c = 48) := by
                rw [HR.out, firstF_hit hf7 HF.out (by simp [faultF, hh, ha])]
                simp [Hid, faultF, hh, ha]
              clear hb5 hh ha
              go_wp2
              go_ret
              exact ⟨by rw [HN.out]; rfl, BV.out.trans (B5.out.mono hVs)⟩
        · obtain rfl : f = 7 := by omega
          rw [show bitF 7 = 128 from rfl]
          have HN : Hid (chk v c = 0) := by rw [HR.out, HF.out]; rfl
          go_wp2
          go_ret
          exact ⟨by rw [HN.out]; rfl, BV.out.trans (HB.out.mono hVs)⟩
end Go.Proofs.YtlhididcanedhaaGreatDoor
