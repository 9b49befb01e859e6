/- The mathematics of DiskTorn, and Append at a list that fits. -/
import Derived.Test.YtahpnfbjpdnapaaDkTrn
import Derived.Test.YtahpnfbjpdnapaaDkLists
namespace Go.Proofs.Ytahpnfbjpdnapaa
open Go.RowKit Go.Wire1 Go.MuLone

theorem torn_step {T p : List Int} {k kq : Nat} (hk : k < p.length) (h : T.length + k < kq) : (T ++ p.take (k + 1)).take kq = (T ++ p.take k).take kq ++ [p.getD k 0] := by
  have e1 : (T ++ p.take (k + 1)).take kq = T ++ p.take (k + 1) := List.take_of_length_le (by rw [List.length_append, List.length_take]; omega)
  have e2 : (T ++ p.take k).take kq = T ++ p.take k := List.take_of_length_le (by rw [List.length_append, List.length_take]; omega)
  rw [e1, e2, take_next hk, List.append_assoc]
theorem torn_stop {T p : List Int} {k kq : Nat} (h : kq ≤ T.length + k) : (T ++ p.take k).take kq = (T ++ p).take kq := by
  rw [List.take_append, List.take_append, List.take_take, Nat.min_eq_left (by omega)]
theorem torn_all {T p : List Int} {k kq : Nat} (h : p.length ≤ k) : (T ++ p.take k).take kq = (T ++ p).take kq := by rw [List.take_of_length_le h]
theorem torn_len {T p : List Int} {k kq : Nat} (h : k ≤ p.length) : ((T ++ p.take k).take kq).length = min kq (T.length + k) := by
  rw [List.length_take, List.length_append, List.length_take, Nat.min_eq_left h]
theorem torn_crash (Bs T : List Int) (kq : Nat) : (Bs ++ T).take (Bs.length + min kq ((Bs ++ T).length - Bs.length)) = Bs ++ T.take kq := by
  rw [List.take_append, List.take_of_length_le (show Bs.length ≤ _ by omega), List.length_append]
  congr 1
  have e : Bs.length + min kq (Bs.length + T.length - Bs.length) - Bs.length = min kq T.length := by omega
  rw [e]
  by_cases h : kq ≤ T.length
  · rw [Nat.min_eq_left h]
  · rw [Nat.min_eq_right (by omega), List.take_length, List.take_of_length_le (by omega)]
theorem crash_yesI (w : World) (b : Nat) (pv : Value) (l : List Int) (m E0 : Nat) (z : Int) (h : Dsk 0 w b pv l m E0) (h0 : ¬ z < 0) (hq : z ≤ 9223372036854775807) :
    Calls Try.prog 21 #[.pointer (some ⟨b, 0, none⟩), .int .i64 z] w fun r w' => r = .returned (.int .i64 0) ∧ ∃ pv', Dst 0 w w' b pv pv' (l.take (m + min z.toNat (l.length - m))) m E0 := by
  obtain ⟨q, rfl⟩ := Int.eq_ofNat_of_zero_le (show 0 ≤ z by omega)
  rw [Int.toNat_natCast]
  exact crash_yes w b pv l m E0 q h hq
theorem append_yes (w : World) (b : Nat) (pv : Value) (l : List Int) (m E0 : Nat) (a : Option Addr) (n cap : Nat) (bs : List Int) (h : Dsk 0 w b pv l m E0) (hs : Seg w a n bs) (hy : Byt bs) (hnil : a = none → n = 0 ∧ cap = 0) (hsep : ∀ x, a = some x → 0 < n → x.block ≠ b) (hfit : l.length + n ≤ 4194304) :
    Calls Try.prog 17 #[.pointer (some ⟨b, 0, none⟩), .slice a n cap] w fun r w' => r = .returned (.int .i64 0) ∧ ∃ pv', Dst 0 w w' b pv pv' (l ++ bs) m E0 := by
  cases a with
  | none =>
    obtain ⟨rfl, rfl⟩ := hnil rfl
    have e : bs = [] := List.eq_nil_of_length_eq_zero hs.1
    rw [e, List.append_nil]
    exact append_nil w b pv l m E0 h
  | some ad => exact append_some w b pv l m E0 ad n cap bs h hs hy (hsep ad rfl) hfit
end Go.Proofs.Ytahpnfbjpdnapaa
