/- The contracts of PutUint, fold and PutInt: what they hand back is new memory that holds just the form of the number. -/
import Derived.Test.YtooejihnifphkaaGreatDoorRows
import Derived.Test.YtooejihnifphkaaGreatDoorMath
import Derived.WalkKit
namespace Go.Proofs.YtooejihnifphkaaGreatDoor
open Go.RowKit Go.Wire1

theorem Tryz.info5 : (Tryz.prog.info? 5).map (fun i => (i.zero, i.size, i.bytes)) = some (some (.int .u8 0), 1, 1) := by kernel_rfl

set_option maxHeartbeats 400000 in
set_option maxRecDepth 100000 in
theorem putUint_any (x : Nat) (w : World) (hx : x < 18446744073709551616) :
    Calls Tryz.prog 71 #[.int .u64 (x : Int)] w fun e w' => ∃ v, e = .returned v ∧ w'.ownsRow w.heap.size 5 1 v (enc x).length ((enc x).map (Value.int .u8)) ∧ Below w.heap.size w w' := by
  obtain ⟨i0, hi, hz0, hz1, hz2⟩ := info_parts Tryz.info5
  go_enter Tryz.func71, Tryz.ntmps71
  go_wp2
  go_loopw [0, 3] (fun s v wr => ∃ (y : Nat) (pre : List Int) (f : Nat), s = .int .u64 (y : Int) ∧ y < 18446744073709551616 ∧ Hid (y < 128 ^ (f + 1)) ∧ pre.length + f = 9 ∧ Hid (pre ++ encF (f + 1) y = enc x) ∧ wr.ownsRow w.heap.size 5 1 v pre.length (pre.map (Value.int .u8)) ∧ Below w.heap.size w wr)
    (fun s _ _ => (intOf s).toNat)
  case atStart => exact ⟨x, [], 9, rfl, hx, pow10 x hx, rfl, rfl, World.ownsRow_nil _ _ _ _, Below.refl _ _⟩
  case round =>
    obtain ⟨y, pre, f, rfl, hy, HP, hf, HE, hown, hbel⟩ := hrel
    have hsz := hbel.size
    have hpl : pre.length ≤ 9 := by omega
    have HF : Hid (pre.length + f = 9) := hf
    clear hf
    by_cases hc : 128 ≤ y
    · go_wp2_with (first
        | (at_builtin; refine wpList_append_own _ rfl _ _ 34 rfl w.heap.size 5 i0 (.int .u8 0) 1 1 Tryz.underlying34 hi hz0 hz1 hz2 rfl (by decide) _ _ _ rfl (hown.alloc _) ⟨wr.heap.size, 0, none⟩ 1 1 [.int .u8 (bits .or .u8 ((y : Int) % 256) 128)] rfl rfl ?c1 ?c2 ?c3 ?c4 ?c5 ?_))
      case c1 =>
        intro j u hj
        match j, hj with
        | 0, hj => simp at hj; subst hj; simp [Addr.add]
      case c2 => intro u hu; simp at hu; subst hu; rfl
      case c3 => unfold maxLen; omega
      case c4 => omega
      case c5 => simp; omega
      intro v' w1 hown' hgrow _
      rw [bits_or128] at hown'
      have R := push hsz hown hbel hown' hgrow
      clear hown' hgrow hown
      obtain ⟨g, rfl, hg⟩ := pow128 f y HP.out hc
      have HG : Hid (y / 128 < 128 ^ (g + 1)) := hg
      clear hg
      go_wp2
      go_roundw
      case rel => exact ⟨y / 128, pre ++ [((y % 128 + 128 : Nat) : Int)], g, by go_num, by omega, HG, by have := HF.out; simp; omega, by have := HE.out; rw [encF_big _ _ hc] at this; simpa [Hid] using this, R.1, R.2⟩
      case measure => simp [intOf]; omega
    · go_wp2_with (first
        | (at_builtin; refine wpList_append_own _ rfl _ _ 34 rfl w.heap.size 5 i0 (.int .u8 0) 1 1 Tryz.underlying34 hi hz0 hz1 hz2 rfl (by decide) _ _ _ rfl (hown.alloc _) ⟨wr.heap.size, 0, none⟩ 1 1 [.int .u8 (y : Int)] rfl rfl ?d1 ?d2 ?d3 ?d4 ?d5 ?_))
      case d1 =>
        intro j u hj
        match j, hj with
        | 0, hj => simp at hj; subst hj; simp [Addr.add]
      case d2 => intro u hu; simp at hu; subst hu; rfl
      case d3 => unfold maxLen; omega
      case d4 => omega
      case d5 => simp; omega
      intro v' w1 hown' hgrow _
      have R := push hsz hown hbel hown' hgrow
      clear hown' hgrow hown
      have HQ : Hid (pre ++ [(y : Int)] = enc x) := by have := HE.out; rw [encF_small _ _ (by omega)] at this; exact this
      go_wp2
      go_ret
      rw [HQ.out] at R
      exact ⟨_, rfl, R.1, R.2⟩

set_option maxHeartbeats 400000 in
set_option maxRecDepth 100000 in
theorem fold_any (x : Int) (w : World) (h1 : -9223372036854775808 ≤ x) (h2 : x ≤ 9223372036854775807) :
    Calls Tryz.prog 157 #[.int .i64 x] w fun e w' => e = .returned (.int .u64 (zig x : Nat)) ∧ w' = w := by
  by_cases hc : 0 ≤ x
  · go_enter Tryz.func157, Tryz.ntmps157
    go_wp2
    go_ret
    exact ⟨ret_int (zig_pos x hc h2), rfl⟩
  · go_enter Tryz.func157, Tryz.ntmps157
    go_wp2
    go_ret
    exact ⟨ret_int (zig_neg x (by omega) h1), rfl⟩

set_option maxHeartbeats 400000 in
set_option maxRecDepth 100000 in
theorem putInt_any (x : Int) (w : World) (h1 : -9223372036854775808 ≤ x) (h2 : x ≤ 9223372036854775807) :
    Calls Tryz.prog 152 #[.int .i64 x] w fun e w' => ∃ v, e = .returned v ∧ w'.ownsRow w.heap.size 5 1 v (enc (zig x)).length ((enc (zig x)).map (Value.int .u8)) ∧ Below w.heap.size w w' := by
  have hz := zig_lt x h1 h2
  go_enter Tryz.func152, Tryz.ntmps152
  go_wp2_with fail
  refine (fold_any x _ h1 h2).mono ?_
  rintro e w' ⟨rfl, rfl⟩
  go_wp2_with fail
  refine (putUint_any (zig x) _ hz).mono ?_
  rintro e w' ⟨v, rfl, hown, hbel⟩
  go_wp2
  go_ret
  exact ⟨_, rfl, hown, hbel⟩
end Go.Proofs.YtooejihnifphkaaGreatDoor
