/- The contract of the statements' own lies. -/
import Derived.Test.YtahaecnopeffhaaTLaw
namespace Go.Proofs.Ytahaecnopeffhaa
open Go.RowKit Go.Wire1

theorem take_in {L : List Tch} {i : Nat} (k : ByteArray) (hi : i < L.length) : inAny k (L.take (i + 1)) = (inAny k (L.take i) || inB k (L.getD i tZ)) := by
  unfold inAny
  rw [List.take_succ_eq_append_getElem hi, List.any_append, List.getD, List.getElem?_eq_getElem hi]
  simp
theorem take_wr {L : List Tch} {i : Nat} (k : ByteArray) (hi : i < L.length) : inWr k (L.take (i + 1)) = (inWr k (L.take i) || (inB k (L.getD i tZ) && (L.getD i tZ).w)) := by
  unfold inWr
  rw [List.take_succ_eq_append_getElem hi, List.any_append, List.getD, List.getElem?_eq_getElem hi]
  simp

set_option maxHeartbeats 2000000 in
set_option maxRecDepth 100000 in
theorem lies_any (k : ByteArray) (a : Option Addr) (n cap B : Nat) (L : List Tch) (w : World) (h : Tchs w B (.slice a n cap) L) (hn : L.length = n) (hl : n ≤ 4) :
    Calls Try.prog 11 #[.string k, .slice a n cap] w fun e w' => e = .returned (.tuple #[.bool (inAny k L), .bool (inWr k L)]) ∧ w = w' := by
  have HT : Hid (Tchs w B (.slice a n cap) L) := h
  have HN : Hid (L.length = n) := hn
  clear h hn
  go_enter Try.func11, Try.ntmps11
  go_wp2_with fail
  go_loopw [6, 7, 8] (fun p q x wr => ∃ i : Nat, p = .bool (inAny k (L.take i)) ∧ q = .bool (inWr k (L.take i)) ∧ x = .int .i64 (i : Int) ∧ i ≤ n ∧ wr = w) (fun _ _ x _ => n - (intOf x).toNat)
  case atStart => exact ⟨0, rfl, rfl, rfl, by omega, rfl⟩
  case round =>
    obtain ⟨i, rfl, rfl, rfl, hi, rfl⟩ := hrel
    by_cases hlt : i < n
    · obtain ⟨b, rfl, d0, d1, d2⟩ := HT.out.at (i := i) (by rw [HN.out]; exact hlt)
      have e1 := hide (take_in k (L := L) (i := i) (by rw [HN.out]; exact hlt))
      have e2 := hide (take_wr k (L := L) (i := i) (by rw [HN.out]; exact hlt))
      generalize inAny k (L.take i) = p at *
      generalize inWr k (L.take i) = q at *
      generalize L.getD i tZ = t at *
      obtain ⟨tk, te, tw⟩ := t
      simp only at d0 d1 d2
      cases h1 : (Op.bytesLess tk.toList k.toList || tk.toList == k.toList) with
      | false =>
        have hI : Hid (inB k ⟨tk, te, tw⟩ = false) := by unfold inB tlt teq; rw [h1]; rfl
        go_wp2
        go_roundw
        case rel => exact ⟨i + 1, by rw [e1.out, hI.out, Bool.or_false], by rw [e2.out, hI.out, Bool.false_and, Bool.or_false], by go_num, by omega, trivial⟩
        case measure => simp [intOf]; omega
      | true =>
        cases h2 : Op.bytesLess k.toList te.toList with
        | false =>
          have hI : Hid (inB k ⟨tk, te, tw⟩ = false) := by unfold inB tlt teq; rw [h1, h2]; rfl
          go_wp2
          go_roundw
          case rel => exact ⟨i + 1, by rw [e1.out, hI.out, Bool.or_false], by rw [e2.out, hI.out, Bool.false_and, Bool.or_false], by go_num, by omega, trivial⟩
          case measure => simp [intOf]; omega
        | true =>
          have hI : Hid (inB k ⟨tk, te, tw⟩ = true) := by unfold inB tlt teq; rw [h1, h2]; rfl
          cases q with
          | true =>
            go_wp2
            go_roundw
            case rel => exact ⟨i + 1, by rw [e1.out, hI.out, Bool.or_true], by rw [e2.out, Bool.true_or], by go_num, by omega, trivial⟩
            case measure => simp [intOf]; omega
          | false =>
            go_wp2
            go_roundw
            case rel => exact ⟨i + 1, by rw [e1.out, hI.out, Bool.or_true], by rw [e2.out, hI.out, Bool.true_and, Bool.false_or], by go_num, by omega, trivial⟩
            case measure => simp [intOf]; omega
    · go_wp2
      have e : L.take i = L := List.take_of_length_le (by rw [HN.out]; omega)
      rw [e]
      go_ret2
      exact ⟨rfl, rfl⟩
end Go.Proofs.Ytahaecnopeffhaa
