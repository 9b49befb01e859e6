/- Texts of the proof, joined. -/
import Derived.Test.YtnjihfbghaefoaaGreatDoorJ29
import Derived.Test.YtnjihfbghaefoaaGreatDoorJ30
import Derived.Test.YtnjihfbghaefoaaGreatDoorJ14
import Derived.Deep.Cut
import Derived.Test.YtnjihfbghaefoaaGreatDoorJ02
import Derived.Test.YtnjihfbghaefoaaGreatDoorJ05
import Derived.Laws.Tables
import Derived.Test.YtnjihfbghaefoaaGreatDoorRows
/- The contract of package record's Encode. -/
namespace Go.Proofs.YtnjihfbghaefoaaGreatDoor
open Go.RowKit Go.Wire1

def zeroW : List Value := [.int .i64 0, .int .i64 0, .int .i64 0, .int .i64 0, .int .i64 0, .bool false, .int .i64 0, .int .i64 0, .int .i64 0, .string ⟨#[]⟩, .string ⟨#[]⟩, .string ⟨#[]⟩, .string ⟨#[]⟩, .int .i64 0, .int .i64 0, .slice none 0 0, .int .i64 0, .int .i64 0, .slice none 0 0]
theorem unl_zero {b : Bool} {e : Nat} (he : e ≠ 0) (h : unlR b e = 0) : b = true := by
  cases b
  · exact absurd h he
  · rfl
theorem firstR_all {n : Int} {r : Rc} : ∀ {xs : List Nat}, firstR n r xs = 0 → ∀ x ∈ xs, faultR n r x = 0
  | [], _, _, hx => by cases hx
  | y :: ys, h, x, hx => by
    have h' : (if faultR n r y = 0 then firstR n r ys else faultR n r y) = 0 := h
    by_cases h0 : faultR n r y = 0
    · rw [if_pos h0] at h'
      rcases List.mem_cons.1 hx with rfl | hx
      · exact h0
      · exact firstR_all h' x hx
    · rw [if_neg h0] at h'; exact absurd h' h0
theorem chkR_zero {n : Int} {r : Rc} (h : chkR n r = 0) : isSizeB n = true ∧ isKindR r.kind = true ∧ extraR r = false ∧ firstR n r (rowR r.kind) = 0 := by
  unfold chkR at h
  cases h1 : isSizeB n with
  | false => rw [h1] at h; simp at h
  | true =>
    cases h2 : isKindR r.kind with
    | false => rw [h1, h2] at h; simp at h
    | true =>
      cases h3 : extraR r with
      | true => rw [h1, h2, h3] at h; simp at h
      | false => rw [h1, h2, h3] at h; exact ⟨rfl, rfl, rfl, by simpa using h⟩
theorem deps_vec {k : Nat} {r : Rc} (h1 : 1 ≤ k) (hk : k ≤ 7) (h : depsR (k : Int) r = true) : isVec r.deps = true := by
  rw [← covers_deps r h1 hk] at h
  unfold coversB at h
  simp only [Bool.and_eq_true] at h
  exact h.2.2.1
/-- What Check takes fits into bytes. -/
theorem fit_of_chk {n : Int} {r : Rc} (h : chkR n r = 0) : ∀ x ∈ rowR r.kind, fitF r x := by
  obtain ⟨h1, h2, _, h4⟩ := chkR_zero h
  obtain ⟨m, rfl, m1, m7⟩ := size_nat h1
  obtain ⟨k, hk, hk6⟩ := kindR_nat h2
  have hall := firstR_all h4
  have hhead : ∀ r : Rc, headB r = true → (0 ≤ r.id ∧ r.id ≤ 1073741824) ∧ (0 ≤ r.n ∧ r.n ≤ 1073741824) := fun r hr => by
    simp only [headB, isSizeB, Bool.and_eq_true, decide_eq_true_eq] at hr
    exact ⟨⟨by omega, by omega⟩, by omega, by omega⟩
  intro x hx
  have hf := hall x hx
  have hl : Ltr x := by
    have := lts_row hk6
    rw [show rowL.getD k [] = rowR r.kind by unfold rowR; rw [hk]; rfl] at this
    obtain ⟨p, hp, rfl⟩ := List.getElem_of_mem hx
    have h5 := this.ltr hp
    rwa [List.getD, List.getElem?_eq_getElem hp] at h5
  rcases hl with rfl | rfl | rfl | rfl | rfl | rfl | rfl | rfl
  · have h110 : (110 : Nat) ∈ rowR r.kind := by
      unfold rowR at hx ⊢
      rw [hk] at hx ⊢
      rcases (by omega : k = 0 ∨ k = 1 ∨ k = 2 ∨ k = 3 ∨ k = 4 ∨ k = 5) with rfl | rfl | rfl | rfl | rfl | rfl <;> revert hx <;> decide
    exact (hhead r (unl_zero (by omega) (hall 110 h110))).1
  · exact (hhead r (unl_zero (by omega) hf)).2
  · have hb : rinstB (m : Int) r.row r.num = true := unl_zero (by omega) hf
    simp only [rinstB, Bool.and_eq_true, decide_eq_true_eq] at hb
    exact ⟨by omega, by omega, by omega, by omega⟩
  · have hb : balR (m : Int) r = true := unl_zero (by omega) hf
    have h105 : (105 : Nat) ∈ rowR r.kind := by
      unfold rowR at hx ⊢
      rw [hk] at hx ⊢
      rcases (by omega : k = 0 ∨ k = 1 ∨ k = 2 ∨ k = 3 ∨ k = 4 ∨ k = 5) with rfl | rfl | rfl | rfl | rfl | rfl <;> revert hx <;> decide
    have hi : rinstB (m : Int) r.row r.num = true := unl_zero (by omega) (hall 105 h105)
    simp only [rinstB, Bool.and_eq_true, decide_eq_true_eq] at hi
    unfold balR at hb
    split at hb
    · simp only [Bool.and_eq_true, beq_iff_eq] at hb
      exact ⟨by omega, by omega, by omega, by omega⟩
    · simp only [Bool.and_eq_true, decide_eq_true_eq] at hb
      exact ⟨by omega, by omega, by omega, by omega⟩
  · exact trivial
  · have hc : cmdR r = 0 := hf
    unfold cmdR at hc
    by_cases h0 : chk 2 r.c = 0
    · exact h0
    · rw [if_neg h0] at hc; exact absurd hc h0
  · have hs : seqR r = true := unl_zero (by omega) hf
    unfold seqR at hs
    split at hs
    · simp only [beq_iff_eq] at hs
      exact ⟨by omega, by omega⟩
    · simp only [Bool.and_eq_true, decide_eq_true_eq] at hs
      exact ⟨by omega, by omega⟩
  · exact deps_vec m1 m7 (unl_zero (by omega) hf)
theorem wrF_le {r : Rc} {x : Nat} (hx : Ltr x) (h : fitF r x) : (wrF r x).length ≤ 131281 := by
  have e10 : ∀ y : Nat, y < 18446744073709551616 → (enc y).length ≤ 10 := fun y hy => by rw [enc_len y hy]; have := cnt_le 9 (y / 128); omega
  rcases hx with rfl | rfl | rfl | rfl | rfl | rfl | rfl | rfl
  · obtain ⟨h1, h2⟩ := h; have := e10 r.id.toNat (by omega); exact Nat.le_trans this (by omega)
  · obtain ⟨h1, h2⟩ := h; have := e10 r.n.toNat (by omega); exact Nat.le_trans this (by omega)
  · obtain ⟨h1, h2, h3, h4⟩ := h; have := e10 (8 * r.num + r.row).toNat (by omega); exact Nat.le_trans this (by omega)
  · obtain ⟨h1, h2, h3, h4⟩ := h; have := e10 (8 * r.round + r.who).toNat (by omega); exact Nat.le_trans this (by omega)
  · show 1 ≤ _; omega
  · exact encC_le h
  · obtain ⟨h1, h2⟩ := h
    show (if noopR r then [] else enc r.seq.toNat).length ≤ _
    split
    · exact Nat.zero_le _
    · have := e10 r.seq.toNat (by omega); omega
  · show (if noopR r then [] else packL 2 r.deps).length ≤ _
    have hv : isVec r.deps = true := h
    split
    · exact Nat.zero_le _
    · have e : packL 2 r.deps = Go.Wire1.tight r.deps := rfl
      have hv' := hv
      unfold isVec at hv'
      simp only [Bool.and_eq_true] at hv'
      have h7 : r.deps.length ≤ 7 := (of_decide_eq_true hv'.1).2
      have := diffK_le hv'.2 r.deps.length
      rw [e, tight_len hv]
      omega
theorem row_len {k : Nat} (h : k < 6) : (rowL.getD k []).length ≤ 6 := by
  rcases (by omega : k = 0 ∨ k = 1 ∨ k = 2 ∨ k = 3 ∨ k = 4 ∨ k = 5) with rfl | rfl | rfl | rfl | rfl | rfl <;> decide
theorem flat_le {r : Rc} : ∀ {xs : List Nat}, (∀ x ∈ xs, (wrF r x).length ≤ 131281) → (xs.flatMap (wrF r)).length ≤ 131281 * xs.length
  | [], _ => by simp
  | x :: xs, h => by
    have h1 := h x List.mem_cons_self
    have h2 := flat_le (r := r) (xs := xs) (fun y hy => h y (List.mem_cons_of_mem _ hy))
    rw [List.flatMap_cons, List.length_append, List.length_cons]
    omega
end Go.Proofs.YtnjihfbghaefoaaGreatDoor
/- The contracts of the statements' own plain and num; one record stored into a box. -/
namespace Go.Proofs.YtnjihfbghaefoaaGreatDoor
open Go.RowKit Go.Wire1

def zeroL : List Value := [.int .i64 0, .int .i64 0, .int .i64 0, .int .i64 0, .int .i64 0, .bool false, .int .i64 0, .int .i64 0, .int .i64 0, .string ⟨#[]⟩, .string ⟨#[]⟩, .string ⟨#[]⟩, .string ⟨#[]⟩, .int .i64 0, .int .i64 0, .slice none 0 0, .int .i64 0, .int .i64 0]
/-- A Committed Get among three; its Deps lie in block b. -/
def plainR (b : Nat) : Rc := ⟨5, 0, 1, 0, 0, false, ⟨1, 0, 0, ⟨#[107]⟩, ⟨#[]⟩, ⟨#[]⟩, ⟨#[]⟩, 0⟩, 3, some ⟨b, 0, none⟩, 3, 3, [0, 5, 5], 0, 0⟩
/-- A box of a record, laid with zeros and then stored. -/
theorem box_stored {w U W : World} {q : Nat} {cs vs : List Value} (h : Blk U q cs) (hl : vs.length = cs.length) (hb : Below w.heap.size w U) (hq : w.heap.size ≤ q) (e : W = U.setCells q 0 vs) : Blk W q vs ∧ Below w.heap.size w W := by
  subst e
  exact ⟨blk_cells h hl, below_cells hq _ _ _ hb⟩

end Go.Proofs.YtnjihfbghaefoaaGreatDoor
/- A struct built of parts, some of many cells, as the walk meets it. -/
namespace Go.Proofs.YtnjihfbghaefoaaGreatDoor
open Go.RowKit Go.Wire1

theorem wpList_build {P : Program} {ops : Array Oper} {rest : List Oper} {op : Oper} {a : Act} {w : World} {Q : Exit → Act → World → Prop} (hgd : op.guard = none) (ty : TypeId) (parts : List (Nat × Operand)) (ho : op.op = .build ty parts.toArray)
    (vs : List (Nat × Value)) (hv : (parts.map fun p => (p.1, a.eval p.2)) = vs) (cells : Array Value) (hb : P.built ty vs = some cells) (h : wpList P ops Q rest (a.put op.dst (.agg cells)) w) : wpList P ops Q (op :: rest) a w :=
  wpList_plain hgd fun _ hK => by
    unfold Oper.wp execOp
    have e : (parts.toArray.map fun (x : Nat × Operand) => match x with | (i, x) => (i, a.eval x)) = vs.toArray := by rw [← hv]; simp
    simp only [ho]
    rw [e]
    simp only [Sem.run_bind, Sem.run_pure, Result.andThen_ok, run_build w ty vs.toArray cells (by simpa using hb)]
    exact hK _ _ h
theorem built_writer (r : Rc) (b : Option Addr) (n c : Nat) : Tryz.prog.built 113 [(0, Value.agg (rcs r).toArray), (1, Value.slice b n c)] = some (rcs r ++ [Value.slice b n c]).toArray := by kernel_rfl
end Go.Proofs.YtnjihfbghaefoaaGreatDoor
