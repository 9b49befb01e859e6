/- Texts of the proof, joined. -/
import Derived.Test.YtpjdgbhjjknopaaDoorJ15
import Derived.Test.YtpjdgbhjjknopaaDoorJ10
/- The contracts of the document's own join and shared. -/
namespace Go.Proofs.YtpjdgbhjjknopaaDoor
open Go.RowKit Go.Wire1

theorem Seg.block {w w' : World} {g n : Nat} {l : List Int} (h : Seg w (some ⟨g, 0, none⟩) n l) (hb : w'.heap[g]? = w.heap[g]?) : Seg w' (some ⟨g, 0, none⟩) n l := by
  refine ⟨h.1, h.2.1, fun hn => ?_⟩
  obtain ⟨b, off, e, hc⟩ := h.2.2 hn
  obtain ⟨rfl, rfl⟩ : g = b ∧ 0 = off := by simpa using e
  exact ⟨g, 0, rfl, fun j hj => by rw [World.cell?_of_block (w := w) hb]; exact hc j hj⟩

set_option maxHeartbeats 1000000 in
set_option maxRecDepth 100000 in
theorem rshared_any (k k2 : ByteArray) (w : World) (h1 : k.size ≤ 140737488351232) (h2 : k2.size ≤ 140737488351232) :
    Calls Tryd.prog 41 #[.string k, .string k2] w fun e w' => e = .returned (.int .i64 (shared k k2 : Nat)) ∧ ∃ q, w' = w.drewN q := by
  go_enter Tryd.func41, Tryd.ntmps41
  go_wp2_with fail
  go_loopw [5] (fun x wr => ∃ i q : Nat, x = .int .i64 (i : Int) ∧ i ≤ k.size ∧ i ≤ k2.size ∧ Hid (shared k k2 = i + shL (k.data.toList.drop i) (k2.data.toList.drop i)) ∧ wr = w.drewN q) (fun x _ => k.size - (intOf x).toNat)
  case atStart => exact ⟨0, 0, rfl, by omega, by omega, by simp [Hid, shared], rfl⟩
  case round =>
    obtain ⟨i, q, rfl, hi, hi2, HF, rfl⟩ := hrel
    have lk : Hid (k.data.toList.length = k.size) := (Lib.size_eq k).symm
    have lk2 : Hid (k2.data.toList.length = k2.size) := (Lib.size_eq k2).symm
    by_cases g1 : i < k.size
    · by_cases g2 : i < k2.size
      · have a1 := tb_at k i g1
        have a2 := tb_at k2 i g2
        have HD := hide (shL_drop i k.data.toList k2.data.toList (by rw [lk.out]; exact g1) (by rw [lk2.out]; exact g2))
        have d1 : decide ((i : Int) < (k.size : Int)) = true := decide_eq_true (by omega)
        have d2 : decide ((i : Int) < (k2.size : Int)) = true := decide_eq_true (by omega)
        generalize k.data.toList.getD i 0 = x at *
        generalize k2.data.toList.getD i 0 = y at *
        by_cases hxy : x = y
        · subst hxy
          have HN : Hid (shared k k2 = (i + 1) + shL (k.data.toList.drop (i + 1)) (k2.data.toList.drop (i + 1))) := by
            have e1 := HF.out
            rw [HD.out, if_pos rfl] at e1
            rw [e1]; exact hide (by omega)
          have hb : (((x.toNat : Nat) : Int) == ((x.toNat : Nat) : Int)) = true := by simp
          go_wp2
          go_quiet (fail)
          go_wp2
          go_roundw
          case rel => exact ⟨i + 1, _, by go_num, by omega, by omega, HN, rfl⟩
          case measure => simp [intOf]; omega
        · have HN : Hid (shared k k2 = i) := by
            have e1 := HF.out
            rw [HD.out, if_neg hxy] at e1
            exact e1
          have hb : (((x.toNat : Nat) : Int) == ((y.toNat : Nat) : Int)) = false := by
            rw [beq_eq_false_iff_ne]
            intro e
            exact hxy (UInt8.toNat_inj.1 (by omega))
          go_wp2
          go_quiet (fail)
          go_wp2
          go_ret
          exact ⟨by rw [HN.out]; rfl, _, by rw [World.drewN_drewN]⟩
      · have HN : Hid (shared k k2 = i) := by
          have e1 := HF.out
          rw [shL_end i _ _ (.inr (by rw [lk2.out]; omega))] at e1
          exact e1
        have d1 : decide ((i : Int) < (k.size : Int)) = true := decide_eq_true (by omega)
        have d2 : decide ((i : Int) < (k2.size : Int)) = false := decide_eq_false (by omega)
        go_wp2
        go_quiet (fail)
        go_wp2
        go_ret
        exact ⟨by rw [HN.out]; rfl, _, by rw [World.drewN_drewN]⟩
    · have HN : Hid (shared k k2 = i) := by
        have e1 := HF.out
        rw [shL_end i _ _ (.inl (by rw [lk.out]; omega))] at e1
        exact e1
      have d1 : decide ((i : Int) < (k.size : Int)) = false := decide_eq_false (by omega)
      go_wp2
      go_quiet (fail)
      go_wp2
      go_ret
      exact ⟨by rw [HN.out]; rfl, _, by rw [World.drewN_drewN]⟩
end Go.Proofs.YtpjdgbhjjknopaaDoor
/- The contract of giveUp, and what the reading methods share. -/
namespace Go.Proofs.YtpjdgbhjjknopaaDoor
open Go.RowKit Go.Wire1

set_option maxHeartbeats 400000 in
set_option maxRecDepth 100000 in
theorem giveUp_any (b : Nat) (k x f : Int) (i : Nat) (hi : i < 5) (a : Nat → Addr) (w : World) (he : Errs w a) (h5 : 6 ≤ b) (hab : ∀ i, i < 5 → (a i).block ≠ b)
    (c1 : w.cell? ⟨b, 1, none⟩ = some (.int .i64 x)) (f1 : w.frozen? ⟨b, 1, none⟩ = false) (c2 : w.cell? ⟨b, 2, none⟩ = some (.int .i64 f)) (f2 : w.frozen? ⟨b, 2, none⟩ = false) :
    Calls Tryd.prog 44 #[.pointer (some ⟨b, 0, none⟩), .int .i64 k, errV (a i)] w fun e w' => e = .returned (.tuple #[]) ∧ w' = (w.setCell ⟨b, 1, none⟩ (.int .i64 k)).setCell ⟨b, 2, none⟩ (.int .i64 (11 + (i : Int))) := by
  have he' : Errs (w.setCell ⟨b, 1, none⟩ (.int .i64 k)) a := he.only ((Only.refl b 1 w).setCell _) h5 hab
  go_enter Tryd.func44, Tryd.ntmps44
  go_wp2_with fail
  refine (errno_any i hi a _ he').mono ?_
  rintro e w1 ⟨rfl, rfl⟩
  go_wp2
  go_end0
  exact ⟨rfl, rfl⟩

/-- What a reading method answers, and what it leaves: Z where it answers nothing. -/
def Meth (Z : Value) (r : Except Nat (Value × Nat)) (k : Nat) (f : Int) : Value × Nat × Int :=
  if f = 0 then (match r with | .ok (v, m) => (v, k + m, 0) | .error i => (Z, k, 11 + (i : Int))) else (Z, k, f)

theorem meth_broken {Z : Value} {r : Except Nat (Value × Nat)} {k : Nat} {f : Int} (h : ¬ f = 0) : Meth Z r k f = (Z, k, f) := by unfold Meth; rw [if_neg h]
theorem meth_ok {Z : Value} {r : Except Nat (Value × Nat)} {k m : Nat} {v : Value} (h : r = .ok (v, m)) : Meth Z r k 0 = (v, k + m, 0) := by unfold Meth; rw [if_pos rfl, h]
theorem meth_err {Z : Value} {r : Except Nat (Value × Nat)} {k i : Nat} (h : r = .error i) : Meth Z r k 0 = (Z, k, 11 + (i : Int)) := by unfold Meth; rw [if_pos rfl, h]

/-- The three blocks that a reading method makes: the receiver's variable, the result's, the start's. -/
theorem new3 (w : World) (v0 v1 v2 : Value) (t0 t1 t2 : TypeId) :
    Below w.heap.size w (((w.alloc (.cells #[v0] t0)).alloc (.cells #[v1] t1)).alloc (.cells #[v2] t2)) ∧
    (((w.alloc (.cells #[v0] t0)).alloc (.cells #[v1] t1)).alloc (.cells #[v2] t2)).cell? ⟨w.heap.size, 0, none⟩ = some v0 ∧
    (((w.alloc (.cells #[v0] t0)).alloc (.cells #[v1] t1)).alloc (.cells #[v2] t2)).cell? ⟨w.heap.size + 1, 0, none⟩ = some v1 ∧
    (((w.alloc (.cells #[v0] t0)).alloc (.cells #[v1] t1)).alloc (.cells #[v2] t2)).cell? ⟨w.heap.size + 1 + 1, 0, none⟩ = some v2 ∧
    (((w.alloc (.cells #[v0] t0)).alloc (.cells #[v1] t1)).alloc (.cells #[v2] t2)).frozen? ⟨w.heap.size + 1, 0, none⟩ = false := by
  refine ⟨?_, ?_, ?_, ?_, ?_⟩
  · exact (((Below.refl _ _).alloc (Nat.le_refl _) _).alloc (by simp) _).alloc (by simp; omega) _
  · rw [World.cell?_alloc_past _ _ _ (by simp; omega), World.cell?_alloc_past _ _ _ (by simp), World.cell?_alloc_at _ _ _ _ rfl]; rfl
  · rw [World.cell?_alloc_past _ _ _ (by simp), World.cell?_alloc_at _ _ _ _ (by simp)]; rfl
  · rw [World.cell?_alloc_at _ _ _ _ (by simp)]; rfl
  · rw [World.frozen?_alloc_past _ _ _ (by simp)]; exact World.frozen?_alloc_at _ _ _ _ (by simp)

end Go.Proofs.YtpjdgbhjjknopaaDoor
