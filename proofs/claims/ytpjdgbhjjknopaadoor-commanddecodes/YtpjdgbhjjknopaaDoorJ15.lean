/- Texts of the proof, joined. -/
import Derived.Test.YtpjdgbhjjknopaaDoorJ13
import Derived.Test.YtpjdgbhjjknopaaDoorJ14
import Derived.WalkLawsBesides
import Derived.Deep.QuietTactic
import Derived.BigQuiet
import Derived.WalkKit
import Derived.Laws.AppendOwn
import Derived.Below
/- The plain mathematics of a command's bytes; nothing of the program is named here. -/
namespace Go.Wire1
open Go.RowKit

/-- A text's bytes, as numbers. -/
def tx (s : ByteArray) : List Int := s.data.toList.map fun b => (b.toNat : Int)
/-- A text as an item: its length, its bytes. -/
def ptx (s : ByteArray) : List Int := enc s.size ++ tx s
/-- How many bytes two texts share at their beginning. -/
def shL : List UInt8 → List UInt8 → Nat
  | a :: x, b :: y => if a = b then shL x y + 1 else 0
  | _, _ => 0
def shared (k k2 : ByteArray) : Nat := shL k.data.toList k2.data.toList
theorem shL_le : ∀ x y : List UInt8, shL x y ≤ x.length ∧ shL x y ≤ y.length
  | [], _ => by simp [shL]
  | _ :: _, [] => by simp [shL]
  | a :: x, b :: y => by
    have := shL_le x y
    simp only [shL]
    split <;> simp <;> omega
theorem shared_le (k k2 : ByteArray) : shared k k2 ≤ k.size ∧ shared k k2 ≤ k2.size := by
  have := shL_le k.data.toList k2.data.toList
  rw [← Lib.size_eq, ← Lib.size_eq] at this
  exact this
theorem shL_drop : ∀ (i : Nat) (x y : List UInt8), i < x.length → i < y.length → shL (x.drop i) (y.drop i) = if x.getD i 0 = y.getD i 0 then shL (x.drop (i + 1)) (y.drop (i + 1)) + 1 else 0 := by
  intro i x y hx hy
  rw [List.drop_eq_getElem_cons hx, List.drop_eq_getElem_cons hy, List.getD, List.getD, List.getElem?_eq_getElem hx, List.getElem?_eq_getElem hy]
  rfl
theorem shL_end (i : Nat) (x y : List UInt8) (h : x.length ≤ i ∨ y.length ≤ i) : shL (x.drop i) (y.drop i) = 0 := by
  rcases h with h | h
  · rw [List.drop_eq_nil_of_le h]; rfl
  · rw [List.drop_eq_nil_of_le h]; cases x.drop i <;> rfl

def restC (c : Cm) : List Int :=
  if 6 ≤ c.kind then enc (shared c.key c.key2) ++ ptx (c.key2.extract (shared c.key c.key2) c.key2.size)
  else if c.kind = 5 then ptx c.old ++ ptx c.val
  else if c.kind = 2 then ptx c.val
  else if c.kind = 4 then enc (zig c.n)
  else []
/-- The bytes of a command. -/
def encC (c : Cm) : List Int := if c.kind = 0 then [0] else [c.kind] ++ enc c.client.toNat ++ enc c.req.toNat ++ ptx c.key ++ restC c

/-- What a command that Check takes is. -/
structure Sound (c : Cm) : Prop where
  k0 : 0 ≤ c.kind
  k8 : c.kind ≤ 8
  client : c.kind ≠ 0 → 0 ≤ c.client ∧ c.client ≤ 65535
  req : c.kind ≠ 0 → 0 ≤ c.req ∧ c.req ≤ 1073741824
  key : c.kind ≠ 0 → 1 ≤ c.key.size ∧ c.key.size ≤ 64
  key2 : 6 ≤ c.kind → 1 ≤ c.key2.size ∧ c.key2.size ≤ 64 ∧ isPairB c.kind c.key c.key2 = true
  val : c.kind = 2 ∨ c.kind = 5 → c.val.size ≤ 65536
  old : c.kind = 5 → c.old.size ≤ 65536
end Go.Wire1
/- One list of bytes of our own laid onto another; the contract of package command's sharedStart. -/
namespace Go.Proofs.YtpjdgbhjjknopaaDoor
open Go.RowKit Go.Wire1

theorem tb_at (s : ByteArray) (i : Nat) (hi : i < s.size) (V : World) : (Instr.index 9 (.string s) (.int .i64 (i : Int))).run Tryd.prog V = .ok (.int .u8 ((s.data.toList.getD i 0).toNat : Int)) V := by
  rw [run_index_string V 9 s .i64 (i : Int) Tryd.underlying9, dif_pos ⟨by omega, by omega⟩]
  simp only [Int.toNat_natCast]
  rw [List.getD, List.getElem?_eq_getElem (by rw [← Lib.size_eq]; exact hi)]
  rfl

set_option maxHeartbeats 1000000 in
set_option maxRecDepth 100000 in
theorem sharedStart_any (k k2 : ByteArray) (w : World) (h1 : k.size ≤ 140737488351232) (h2 : k2.size ≤ 140737488351232) :
    Calls Tryd.prog 37 #[.string k, .string k2] w fun e w' => e = .returned (.int .i64 (shared k k2 : Nat)) ∧ ∃ q, w' = w.drewN q := by
  go_enter Tryd.func37, Tryd.ntmps37
  go_wp2_with fail
  go_loopw [5] (fun x wr => ∃ i q : Nat, x = .int .i64 (i : Int) ∧ i ≤ k.size ∧ i ≤ k2.size ∧ Hid (shared k k2 = i + shL (k.data.toList.drop i) (k2.data.toList.drop i)) ∧ wr = w.drewN q) (fun x _ => k.size - (intOf x).toNat)
  case atStart => exact ⟨0, 0, rfl, by omega, by omega, by simp [Hid, shared], rfl⟩
  case round =>
    obtain ⟨i, q, rfl, hi, hi2, HF, rfl⟩ := hrel
    have lk : Hid (k.data.toList.length = k.size) := (Lib.size_eq k).symm
    have lk2 : Hid (k2.data.toList.length = k2.size) := (Lib.size_eq k2).symm
    by_cases g1 : i < k.size
    · by_cases g2 : i < k2.size
      · have a1 := tb_at k i g1
        have a2 := tb_at k2 i g2
        have HD := hide (shL_drop i k.data.toList k2.data.toList (by rw [lk.out]; exact g1) (by rw [lk2.out]; exact g2))
        have d1 : decide ((i : Int) < (k.size : Int)) = true := decide_eq_true (by omega)
        have d2 : decide ((i : Int) < (k2.size : Int)) = true := decide_eq_true (by omega)
        generalize k.data.toList.getD i 0 = x at *
        generalize k2.data.toList.getD i 0 = y at *
        by_cases hxy : x = y
        · subst hxy
          have HN : Hid (shared k k2 = (i + 1) + shL (k.data.toList.drop (i + 1)) (k2.data.toList.drop (i + 1))) := by
            have e1 := HF.out
            rw [HD.out, if_pos rfl] at e1
            rw [e1]; exact hide (by omega)
          have hb : (((x.toNat : Nat) : Int) == ((x.toNat : Nat) : Int)) = true := by simp
          go_wp2
          go_quiet (fail)
          go_wp2
          go_roundw
          case rel => exact ⟨i + 1, _, by go_num, by omega, by omega, HN, rfl⟩
          case measure => simp [intOf]; omega
        · have HN : Hid (shared k k2 = i) := by
            have e1 := HF.out
            rw [HD.out, if_neg hxy] at e1
            exact e1
          have hb : (((x.toNat : Nat) : Int) == ((y.toNat : Nat) : Int)) = false := by
            rw [beq_eq_false_iff_ne]
            intro e
            exact hxy (UInt8.toNat_inj.1 (by omega))
          go_wp2
          go_quiet (fail)
          go_wp2
          go_ret
          exact ⟨by rw [HN.out]; rfl, _, by rw [World.drewN_drewN]⟩
      · have HN : Hid (shared k k2 = i) := by
          have e1 := HF.out
          rw [shL_end i _ _ (.inr (by rw [lk2.out]; omega))] at e1
          exact e1
        have d1 : decide ((i : Int) < (k.size : Int)) = true := decide_eq_true (by omega)
        have d2 : decide ((i : Int) < (k2.size : Int)) = false := decide_eq_false (by omega)
        go_wp2
        go_quiet (fail)
        go_wp2
        go_ret
        exact ⟨by rw [HN.out]; rfl, _, by rw [World.drewN_drewN]⟩
    · have HN : Hid (shared k k2 = i) := by
        have e1 := HF.out
        rw [shL_end i _ _ (.inl (by rw [lk.out]; omega))] at e1
        exact e1
      have d1 : decide ((i : Int) < (k.size : Int)) = false := decide_eq_false (by omega)
      go_wp2
      go_quiet (fail)
      go_wp2
      go_ret
      exact ⟨by rw [HN.out]; rfl, _, by rw [World.drewN_drewN]⟩
end Go.Proofs.YtpjdgbhjjknopaaDoor
/- A law of our own: where the row lies that append hands back: in the block that it had, or in a new one. -/
namespace Go
open Go.RowKit

end Go
