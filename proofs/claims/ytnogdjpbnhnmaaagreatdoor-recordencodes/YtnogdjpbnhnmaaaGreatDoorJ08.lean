/- Texts of the proof, joined. -/
import Derived.Test.YtnogdjpbnhnmaaaGreatDoorRows
import Derived.Test.YtnogdjpbnhnmaaaGreatDoorJ02
import Derived.Test.YtnogdjpbnhnmaaaGreatDoorJ03
import Derived.WalkKit
import Derived.WalkLawsBesides
import Derived.Lib.Bytealg
import Derived.Test.YtnogdjpbnhnmaaaGreatDoorJ05
import Derived.Deep.QuietTactic
import Derived.BigQuiet
import Derived.Deep.RegionHeld3
import Derived.Test.YtnogdjpbnhnmaaaGreatDoorJ01
/- The contracts of strings.ContainsRune at an ASCII letter, and of cmp.Or at two errors. -/
namespace Go.Proofs.YtnogdjpbnhnmaaaGreatDoor
open Go.RowKit Go.Wire1

set_option maxHeartbeats 2000000 in
set_option maxRecDepth 100000 in
theorem liteIndexByte_any (s : ByteArray) (c : Nat) (w : World) :
    Calls Tryz.prog 163 #[.string s, .int .u8 (c : Int)] w fun e w' => e = .returned (.int .i64 (Lib.indexByte s.data.toList c.toUInt8)) ∧ w = w' := by
  go_enter Tryz.func163, Tryz.ntmps163
  go_wp2
  rw [run_callFunc_extern Tryz.func174 (by kernel_rfl) (by kernel_rfl) (by kernel_rfl) (e := Extern.BytealgIndexByte.indexByte) (by kernel_rfl), Lib.run_indexByteString]
  simp only [Result.andThen]
  rw [Oper.upon_value]
  go_wp2
  go_ret
  exact ⟨rfl, rfl⟩

set_option maxHeartbeats 2000000 in
set_option maxRecDepth 100000 in
theorem indexByte_any (s : ByteArray) (c : Nat) (w : World) :
    Calls Tryz.prog 147 #[.string s, .int .u8 (c : Int)] w fun e w' => e = .returned (.int .i64 (Lib.indexByte s.data.toList c.toUInt8)) ∧ w = w' := by
  go_enter Tryz.func147, Tryz.ntmps147
  go_wp2_with (go_at_call 163; refine (liteIndexByte_any s c _).mono ?_; rintro e w' ⟨rfl, rfl⟩)
  go_ret
  exact ⟨rfl, rfl⟩

set_option maxHeartbeats 2000000 in
set_option maxRecDepth 100000 in
theorem indexRune_any (s : ByteArray) (c : Nat) (w : World) (hc : c < 128) :
    Calls Tryz.prog 119 #[.string s, .int .i32 (c : Int)] w fun e w' => e = .returned (.int .i64 (Lib.indexByte s.data.toList c.toUInt8)) ∧ w = w' := by
  have h0 : (0 : Int) ≤ (c : Int) := by omega
  have h1 : (c : Int) < 128 := by omega
  go_enter Tryz.func119, Tryz.ntmps119
  go_wp2_with (go_at_call 147; refine (indexByte_any s c _).mono ?_; rintro e w' ⟨rfl, rfl⟩)
  go_ret
  exact ⟨rfl, rfl⟩

set_option maxHeartbeats 2000000 in
set_option maxRecDepth 100000 in
theorem containsRune_any (s : ByteArray) (c : Nat) (w : World) (hc : c < 128) :
    Calls Tryz.prog 86 #[.string s, .int .i32 (c : Int)] w fun e w' => e = .returned (.bool (decide (0 ≤ Lib.indexByte s.data.toList c.toUInt8))) ∧ w = w' := by
  go_enter Tryz.func86, Tryz.ntmps86
  go_wp2_with (go_at_call 119; refine (indexRune_any s c _ hc).mono ?_; rintro e w' ⟨rfl, rfl⟩)
  go_ret
  exact ⟨rfl, rfl⟩

/-- The first of two errors that is one. -/
def orR (a b : Nat) : Nat := if a = 0 then b else a
set_option maxHeartbeats 2000000 in
set_option maxRecDepth 100000 in
theorem cmpOr_any (a b q : Nat) (w : World) (h : Blk w q [.int .i64 (a : Int), .int .i64 (b : Int)]) :
    Calls Tryz.prog 76 #[.slice (some ⟨q, 0, none⟩) 2 2] w fun e w' => e = .returned (.int .i64 (orR a b : Nat)) ∧ w = w' := by
  have c0 := h.cell 0 _ rfl
  have c1 := h.cell 1 _ rfl
  clear h
  by_cases ha : a = 0
  · subst ha
    by_cases hb : b = 0
    · subst hb
      go_enter Tryz.func76, Tryz.ntmps76
      go_wp2
      refine wp_loop_rounds 3 ?_
      rw [rounds_succ]; go_wp2
      rw [rounds_succ]; go_wp2
      rw [rounds_succ]; go_wp2
      go_ret
      exact ⟨rfl, rfl⟩
    · have e1 : Hid (orR 0 b = b) := rfl
      have n1 : ((b : Int) != 0) = true := by rw [bne_iff_ne]; omega
      go_enter Tryz.func76, Tryz.ntmps76
      go_wp2
      refine wp_loop_rounds 3 ?_
      rw [rounds_succ]; go_wp2
      rw [rounds_succ]; go_wp2
      go_ret
      exact ⟨by rw [e1.out]; rfl, rfl⟩
  · have e1 : Hid (orR a b = a) := by show _ = _; unfold orR; rw [if_neg ha]
    have n1 : ((a : Int) != 0) = true := by rw [bne_iff_ne]; omega
    go_enter Tryz.func76, Tryz.ntmps76
    go_wp2
    refine wp_loop_rounds 3 ?_
    rw [rounds_succ]; go_wp2
    go_ret
    exact ⟨by rw [e1.out]; rfl, rfl⟩
end Go.Proofs.YtnogdjpbnhnmaaaGreatDoor
/- The contracts of package command's isVersion, isKind, isZero, isAllowed, faultOf, isKey, isPair, mostVal. -/
namespace Go.Proofs.YtnogdjpbnhnmaaaGreatDoor
open Go.RowKit Go.Wire1

/-- The table of kinds lies in memory. -/
def Knd (w : World) : Prop := ∀ i, i < 9 → w.cell? ⟨1, i * 2, none⟩ = some (.int .i64 (fieldsL.getD i 0 : Nat)) ∧ w.cell? ⟨1, i * 2 + 1, none⟩ = some (.int .i64 (fromL.getD i 0 : Nat))
theorem Knd.lt {w : World} (h : Knd w) : 1 < w.heap.size := cell_lt (h 0 (by omega)).1
theorem Knd.below {w w' : World} {B : Nat} (h : Knd w) (hb : Below B w w') (hB : w.heap.size ≤ B) : Knd w' := by
  have hl := h.lt
  intro i hi
  obtain ⟨h1, h2⟩ := h i hi
  exact ⟨by rw [hb.cell (p := ⟨1, i * 2, none⟩) (Nat.lt_of_lt_of_le hl hB)]; exact h1, by rw [hb.cell (p := ⟨1, i * 2 + 1, none⟩) (Nat.lt_of_lt_of_le hl hB)]; exact h2⟩

set_option maxHeartbeats 400000 in
set_option maxRecDepth 100000 in
theorem isVersion_any (v : Int) (w : World) :
    Calls Tryz.prog 109 #[.int .i64 v] w fun e w' => e = .returned (.bool (isVer v)) ∧ w = w' := by
  cases h1 : (v == 1) with
  | true =>
    have HR : Hid (isVer v = true) := by simp [Hid, isVer, h1]
    go_enter Tryz.func109, Tryz.ntmps109
    go_wp2
    go_ret
    exact ⟨by rw [HR.out]; rfl, rfl⟩
  | false =>
    have HR : Hid (isVer v = (v == 2)) := by simp [Hid, isVer, h1]
    go_enter Tryz.func109, Tryz.ntmps109
    go_wp2
    go_ret
    exact ⟨by rw [HR.out]; rfl, rfl⟩

set_option maxHeartbeats 400000 in
set_option maxRecDepth 100000 in
theorem isKind_any (v kind : Int) (w : World) (hK : Knd w) :
    Calls Tryz.prog 110 #[.int .i64 v, .int .i64 kind] w fun e w' => e = .returned (.bool (isKd v kind)) ∧ w = w' := by
  by_cases h1 : 0 ≤ kind
  · by_cases h2 : kind < 9
    · obtain ⟨k, rfl⟩ := Int.eq_ofNat_of_zero_le h1
      have h3 : k < 9 := by omega
      obtain ⟨_, hc⟩ := hK k h3
      have HR : Hid (isKd v (k : Int) = decide ((fromL.getD k 0 : Int) ≤ v)) := by simp [Hid, isKd, h2]
      generalize fromL.getD k 0 = fr at *
      go_enter Tryz.func110, Tryz.ntmps110
      go_wp2
      go_ret
      exact ⟨by rw [HR.out]; rfl, rfl⟩
    · have HR : Hid (isKd v kind = false) := by simp [Hid, isKd, h2]
      go_enter Tryz.func110, Tryz.ntmps110
      go_wp2
      go_ret
      exact ⟨by rw [HR.out]; first | rfl | (simp; omega), rfl⟩
  · have HR : Hid (isKd v kind = false) := by simp [Hid, isKd, h1]
    go_enter Tryz.func110, Tryz.ntmps110
    go_wp2
    go_ret
    exact ⟨by rw [HR.out]; first | rfl | (simp; omega), rfl⟩

set_option maxHeartbeats 400000 in
set_option maxRecDepth 100000 in
theorem isKey_any (k : ByteArray) (w : World) (hk : k.size ≤ 140737488351232) :
    Calls Tryz.prog 138 #[.string k] w fun e w' => e = .returned (.bool (isKeyB k)) ∧ w = w' := by
  by_cases h1 : 1 ≤ k.size
  · have HR : Hid (isKeyB k = decide ((k.size : Int) ≤ 64)) := by
      unfold isKeyB; rw [decide_eq_true h1, Bool.true_and, Hid]
      exact decide_eq_decide.2 (by omega)
    go_enter Tryz.func138, Tryz.ntmps138
    go_wp2
    go_ret
    exact ⟨by rw [HR.out]; rfl, rfl⟩
  · have HR : Hid (isKeyB k = false) := by simp [Hid, isKeyB, h1]
    go_enter Tryz.func138, Tryz.ntmps138
    go_wp2
    go_ret
    exact ⟨by rw [HR.out]; first | rfl | (simp; omega), rfl⟩
set_option maxHeartbeats 400000 in
set_option maxRecDepth 100000 in
theorem isPair_any (kind : Int) (k k2 : ByteArray) (w : World) :
    Calls Tryz.prog 139 #[.int .i64 kind, .string k, .string k2] w fun e w' => e = .returned (.bool (isPairB kind k k2)) ∧ w = w' := by
  by_cases h1 : kind = 8
  · subst h1
    have HR : Hid (isPairB 8 k k2 = Op.bytesLess k.toList k2.toList) := by simp [Hid, isPairB, tlt]
    go_enter Tryz.func139, Tryz.ntmps139
    go_wp2
    go_ret
    exact ⟨by rw [HR.out]; rfl, rfl⟩
  · have HR : Hid (isPairB kind k k2 = !(k.toList == k2.toList)) := by simp [Hid, isPairB, teq, h1]
    have g1 : (kind == 8) = false := by simpa using h1
    go_enter Tryz.func139, Tryz.ntmps139
    go_wp2
    go_ret
    exact ⟨by rw [HR.out]; rfl, rfl⟩

set_option maxHeartbeats 400000 in
set_option maxRecDepth 100000 in
theorem mostVal_any (v : Int) (w : World) :
    Calls Tryz.prog 140 #[.int .i64 v] w fun e w' => e = .returned (.int .i64 (mostV v : Nat)) ∧ w = w' := by
  by_cases h1 : v = 1
  · subst h1
    go_enter Tryz.func140, Tryz.ntmps140
    go_wp2
    go_ret
    exact ⟨rfl, rfl⟩
  · have HR : Hid (mostV v = 65536) := by simp [Hid, mostV, h1]
    have g1 : (v == 1) = false := by simpa using h1
    go_enter Tryz.func140, Tryz.ntmps140
    go_wp2
    go_ret
    exact ⟨by rw [HR.out]; rfl, rfl⟩

set_option maxHeartbeats 1000000 in
set_option maxRecDepth 100000 in
theorem isZero_any (c : Cm) (f : Nat) (w : World) (hf : f < 7) :
    Calls Tryz.prog 111 #[.agg #[.int .i64 c.kind, .int .i64 c.client, .int .i64 c.req, .string c.key, .string c.key2, .string c.val, .string c.old, .int .i64 c.n], .int .i64 (bitF f)] w fun e w' => e = .returned (.bool (zeroF c f)) ∧ Below w.heap.size w w' := by
  have B : ∀ (o : Obj), Below w.heap.size w (w.alloc o) := fun o => (Below.refl _ _).alloc (Nat.le_refl _) _
  rcases (by omega : f = 0 ∨ f = 1 ∨ f = 2 ∨ f = 3 ∨ f = 4 ∨ f = 5 ∨ f = 6) with rfl | rfl | rfl | rfl | rfl | rfl | rfl
  all_goals
    (first | rw [show bitF 0 = 1 from rfl] | rw [show bitF 1 = 2 from rfl] | rw [show bitF 2 = 4 from rfl] | rw [show bitF 3 = 8 from rfl] | rw [show bitF 4 = 16 from rfl] | rw [show bitF 5 = 32 from rfl] | rw [show bitF 6 = 64 from rfl])
    go_enter Tryz.func111, Tryz.ntmps111
    go_wp2
    go_ret
    exact ⟨rfl, B _⟩
set_option maxHeartbeats 1000000 in
set_option maxRecDepth 100000 in
theorem faultOf_any (f : Nat) (w : World) (hf : f < 7) :
    Calls Tryz.prog 113 #[.int .i64 (bitF f)] w fun e w' => e = .returned (.int .i64 (errF f : Nat)) ∧ w = w' := by
  rcases (by omega : f = 0 ∨ f = 1 ∨ f = 2 ∨ f = 3 ∨ f = 4 ∨ f = 5 ∨ f = 6) with rfl | rfl | rfl | rfl | rfl | rfl | rfl
  all_goals
    (first | rw [show bitF 0 = 1 from rfl] | rw [show bitF 1 = 2 from rfl] | rw [show bitF 2 = 4 from rfl] | rw [show bitF 3 = 8 from rfl] | rw [show bitF 4 = 16 from rfl] | rw [show bitF 5 = 32 from rfl] | rw [show bitF 6 = 64 from rfl])
    go_enter Tryz.func113, Tryz.ntmps113
    go_wp2
    go_ret
    exact ⟨rfl, rfl⟩
set_option maxHeartbeats 2000000 in
set_option maxRecDepth 100000 in
theorem isAllowed_any (v : Int) (c : Cm) (f : Nat) (w : World) (hf : f < 7) (hk : c.key.size ≤ 140737488351232) (hk2 : c.key2.size ≤ 140737488351232) :
    Calls Tryz.prog 112 #[.int .i64 v, .agg #[.int .i64 c.kind, .int .i64 c.client, .int .i64 c.req, .string c.key, .string c.key2, .string c.val, .string c.old, .int .i64 c.n], .int .i64 (bitF f)] w fun e w' => e = .returned (.bool (allowF v c f)) ∧ Below w.heap.size w w' := by
  have B : ∀ (o : Obj), Below w.heap.size w (w.alloc o) := fun o => (Below.refl _ _).alloc (Nat.le_refl _) _
  rcases (by omega : f = 0 ∨ f = 1 ∨ f = 2 ∨ f = 3 ∨ f = 4 ∨ f = 5 ∨ f = 6) with rfl | rfl | rfl | rfl | rfl | rfl | rfl
  · rw [show bitF 0 = 1 from rfl]
    by_cases h1 : 0 ≤ c.client
    · go_enter Tryz.func112, Tryz.ntmps112
      go_wp2
      go_ret
      exact ⟨by simp [allowF, h1], B _⟩
    · go_enter Tryz.func112, Tryz.ntmps112
      go_wp2
      go_ret
      exact ⟨by simp [allowF]; omega, B _⟩
  · rw [show bitF 1 = 2 from rfl]
    by_cases h1 : 0 ≤ c.req
    · go_enter Tryz.func112, Tryz.ntmps112
      go_wp2
      go_ret
      exact ⟨by simp [allowF, h1], B _⟩
    · go_enter Tryz.func112, Tryz.ntmps112
      go_wp2
      go_ret
      exact ⟨by simp [allowF]; omega, B _⟩
  · rw [show bitF 2 = 4 from rfl]
    go_enter Tryz.func112, Tryz.ntmps112
    go_wp2_with fail
    refine (isKey_any c.key _ hk).mono ?_
    rintro e w1 ⟨rfl, rfl⟩
    go_wp2
    go_ret
    exact ⟨rfl, B _⟩
  · rw [show bitF 3 = 8 from rfl]
    cases h1 : isKeyB c.key2 with
    | true =>
      go_enter Tryz.func112, Tryz.ntmps112
      go_wp2_with fail
      refine (isKey_any c.key2 _ hk2).mono ?_
      rintro e w1 ⟨rfl, rfl⟩
      rw [h1]
      go_wp2_with fail
      refine (isPair_any c.kind c.key c.key2 _).mono ?_
      rintro e w1 ⟨rfl, rfl⟩
      go_wp2
      go_ret
      exact ⟨by simp [allowF, h1], B _⟩
    | false =>
      go_enter Tryz.func112, Tryz.ntmps112
      go_wp2_with fail
      refine (isKey_any c.key2 _ hk2).mono ?_
      rintro e w1 ⟨rfl, rfl⟩
      rw [h1]
      go_wp2
      go_ret
      exact ⟨by simp [allowF, h1], B _⟩
  · rw [show bitF 4 = 16 from rfl]
    obtain ⟨V, hV⟩ : ∃ V, V = w.alloc (.cells #[.int .i64 c.kind, .int .i64 c.client, .int .i64 c.req, .string c.key, .string c.key2, .string c.val, .string c.old, .int .i64 c.n] 28) := ⟨_, rfl⟩
    have c5 : V.cell? ⟨w.heap.size, 5, none⟩ = some (.string c.val) := by rw [hV]; simp [go_sem]
    have BV : Hid (Below w.heap.size w V) := by rw [hV]; exact B _
    go_enter Tryz.func112, Tryz.ntmps112
    go_wp2
    rw [← hV]
    clear hV
    go_region_held3 (fun w' => w'.cell? ⟨w.heap.size, 5, none⟩ = some (.string c.val)) (first | go_keep) (first | (go_at_call 140; refine (mostVal_any v _).mono ?_; rintro e w1 ⟨rfl, rfl⟩))
    go_wp2
    go_ret
    exact ⟨by simp [allowF], BV.out.drew⟩
  · rw [show bitF 5 = 32 from rfl]
    obtain ⟨V, hV⟩ : ∃ V, V = w.alloc (.cells #[.int .i64 c.kind, .int .i64 c.client, .int .i64 c.req, .string c.key, .string c.key2, .string c.val, .string c.old, .int .i64 c.n] 28) := ⟨_, rfl⟩
    have c6 : V.cell? ⟨w.heap.size, 6, none⟩ = some (.string c.old) := by rw [hV]; simp [go_sem]
    have BV : Hid (Below w.heap.size w V) := by rw [hV]; exact B _
    go_enter Tryz.func112, Tryz.ntmps112
    go_wp2
    rw [← hV]
    clear hV
    go_region_held3 (fun w' => w'.cell? ⟨w.heap.size, 6, none⟩ = some (.string c.old)) (first | go_keep) (first | (go_at_call 140; refine (mostVal_any v _).mono ?_; rintro e w1 ⟨rfl, rfl⟩))
    go_wp2
    go_ret
    exact ⟨by simp [allowF], BV.out.drew⟩
  · rw [show bitF 6 = 64 from rfl]
    go_enter Tryz.func112, Tryz.ntmps112
    go_wp2
    go_ret
    exact ⟨rfl, B _⟩
end Go.Proofs.YtnogdjpbnhnmaaaGreatDoor
/- A command in a block of its own. -/
namespace Go.Proofs.YtnogdjpbnhnmaaaGreatDoor
open Go.RowKit Go.Wire1

/-- A command in a block of its own. -/
def CBox (w : World) (g : Nat) (kind client req : Int) (key key2 val old : ByteArray) (n : Int) : Prop :=
  w.cell? ⟨g, 0, none⟩ = some (.int .i64 kind) ∧ w.cell? ⟨g, 1, none⟩ = some (.int .i64 client) ∧ w.cell? ⟨g, 2, none⟩ = some (.int .i64 req) ∧ w.cell? ⟨g, 3, none⟩ = some (.string key) ∧ w.cell? ⟨g, 4, none⟩ = some (.string key2) ∧ w.cell? ⟨g, 5, none⟩ = some (.string val) ∧ w.cell? ⟨g, 6, none⟩ = some (.string old) ∧ w.cell? ⟨g, 7, none⟩ = some (.int .i64 n)
theorem CBox.below {w w' : World} {g B : Nat} {kind client req : Int} {key key2 val old : ByteArray} {n : Int} (h : CBox w g kind client req key key2 val old n) (hb : Below B w w') (hB : w.heap.size ≤ B) : CBox w' g kind client req key key2 val old n := by
  have hg : g < w.heap.size := cell_lt h.1
  have key : ∀ o, w'.cell? ⟨g, o, none⟩ = w.cell? ⟨g, o, none⟩ := fun o => hb.cell (p := ⟨g, o, none⟩) (by show g < B; omega)
  unfold CBox
  rw [key, key, key, key, key, key, key, key]
  exact h
theorem CBox.drewN {w : World} {g : Nat} {kind client req : Int} {key key2 val old : ByteArray} {n : Int} (h : CBox w g kind client req key key2 val old n) (q : Nat) : CBox (w.drewN q) g kind client req key key2 val old n := h
theorem cbox_new (w : World) (t : TypeId) (kind client req : Int) (key key2 val old : ByteArray) (n : Int) : CBox (w.alloc (.cells #[.int .i64 kind, .int .i64 client, .int .i64 req, .string key, .string key2, .string val, .string old, .int .i64 n] t)) w.heap.size kind client req key key2 val old n := by
  refine ⟨?_, ?_, ?_, ?_, ?_, ?_, ?_, ?_⟩ <;> simp [go_sem]
end Go.Proofs.YtnogdjpbnhnmaaaGreatDoor
