/- Texts of the proof, joined. -/
import Derived.Test.YtnogdjpbnhnmaaaGreatDoorJ27
import Derived.Test.YtnogdjpbnhnmaaaGreatDoorJ28
import Derived.Test.YtnogdjpbnhnmaaaGreatDoorJ12
import Derived.Deep.Cut
import Derived.Test.YtnogdjpbnhnmaaaGreatDoorJ03
import Derived.Test.YtnogdjpbnhnmaaaGreatDoorJ02
import Derived.Laws.Tables
import Derived.Test.YtnogdjpbnhnmaaaGreatDoorRows
/- The contract of package record's Encode. -/
namespace Go.Proofs.YtnogdjpbnhnmaaaGreatDoor
open Go.RowKit Go.Wire1

def zeroW : List Value := [.int .i64 0, .int .i64 0, .int .i64 0, .int .i64 0, .int .i64 0, .bool false, .int .i64 0, .int .i64 0, .int .i64 0, .string ⟨#[]⟩, .string ⟨#[]⟩, .string ⟨#[]⟩, .string ⟨#[]⟩, .int .i64 0, .int .i64 0, .slice none 0 0, .int .i64 0, .int .i64 0, .slice none 0 0]
theorem unl_zero {b : Bool} {e : Nat} (he : e ≠ 0) (h : unlR b e = 0) : b = true := by
  cases b
  · exact absurd h he
  · rfl
theorem firstR_all {n : Int} {r : Rc} : ∀ {xs : List Nat}, firstR n r xs = 0 → ∀ x ∈ xs, faultR n r x = 0
  | [], _, _, hx => by cases hx
  | y :: ys, h, x, hx => by
    have h' : (if faultR n r y = 0 then firstR n r ys else faultR n r y) = 0 := h
    by_cases h0 : faultR n r y = 0
    · rw [if_pos h0] at h'
      rcases List.mem_cons.1 hx with rfl | hx
      · exact h0
      · exact firstR_all h' x hx
    · rw [if_neg h0] at h'; exact absurd h' h0
theorem chkR_zero {n : Int} {r : Rc} (h : chkR n r = 0) : isSizeB n = true ∧ isKindR r.kind = true ∧ extraR r = false ∧ firstR n r (rowR r.kind) = 0 := by
  unfold chkR at h
  cases h1 : isSizeB n with
  | false => rw [h1] at h; simp at h
  | true =>
    cases h2 : isKindR r.kind with
    | false => rw [h1, h2] at h; simp at h
    | true =>
      cases h3 : extraR r with
      | true => rw [h1, h2, h3] at h; simp at h
      | false => rw [h1, h2, h3] at h; exact ⟨rfl, rfl, rfl, by simpa using h⟩
theorem deps_vec {k : Nat} {r : Rc} (h1 : 1 ≤ k) (hk : k ≤ 7) (h : depsR (k : Int) r = true) : isVec r.deps = true := by
  rw [← covers_deps r h1 hk] at h
  unfold coversB at h
  simp only [Bool.and_eq_true] at h
  exact h.2.2.1
/-- What Check takes fits into bytes. -/
theorem fit_of_chk {n : Int} {r : Rc} (h : chkR n r = 0) : ∀ x ∈ rowR r.kind, fitF r x := by
  obtain ⟨h1, h2, _, h4⟩ := chkR_zero h
  obtain ⟨m, rfl, m1, m7⟩ := size_nat h1
  obtain ⟨k, hk, hk6⟩ := kindR_nat h2
  have hall := firstR_all h4
  have hhead : ∀ r : Rc, headB r = true → (0 ≤ r.id ∧ r.id ≤ 1073741824) ∧ (0 ≤ r.n ∧ r.n ≤ 1073741824) := fun r hr => by
    simp only [headB, isSizeB, Bool.and_eq_true, decide_eq_true_eq] at hr
    exact ⟨⟨by omega, by omega⟩, by omega, by omega⟩
  intro x hx
  have hf := hall x hx
  have hl : Ltr x := by
    have := lts_row hk6
    rw [show rowL.getD k [] = rowR r.kind by unfold rowR; rw [hk]; rfl] at this
    obtain ⟨p, hp, rfl⟩ := List.getElem_of_mem hx
    have h5 := this.ltr hp
    rwa [List.getD, List.getElem?_eq_getElem hp] at h5
  rcases hl with rfl | rfl | rfl | rfl | rfl | rfl | rfl | rfl
  · have h110 : (110 : Nat) ∈ rowR r.kind := by
      unfold rowR at hx ⊢
      rw [hk] at hx ⊢
      rcases (by omega : k = 0 ∨ k = 1 ∨ k = 2 ∨ k = 3 ∨ k = 4 ∨ k = 5) with rfl | rfl | rfl | rfl | rfl | rfl <;> revert hx <;> decide
    exact (hhead r (unl_zero (by omega) (hall 110 h110))).1
  · exact (hhead r (unl_zero (by omega) hf)).2
  · have hb : rinstB (m : Int) r.row r.num = true := unl_zero (by omega) hf
    simp only [rinstB, Bool.and_eq_true, decide_eq_true_eq] at hb
    exact ⟨by omega, by omega, by omega, by omega⟩
  · have hb : balR (m : Int) r = true := unl_zero (by omega) hf
    have h105 : (105 : Nat) ∈ rowR r.kind := by
      unfold rowR at hx ⊢
      rw [hk] at hx ⊢
      rcases (by omega : k = 0 ∨ k = 1 ∨ k = 2 ∨ k = 3 ∨ k = 4 ∨ k = 5) with rfl | rfl | rfl | rfl | rfl | rfl <;> revert hx <;> decide
    have hi : rinstB (m : Int) r.row r.num = true := unl_zero (by omega) (hall 105 h105)
    simp only [rinstB, Bool.and_eq_true, decide_eq_true_eq] at hi
    unfold balR at hb
    split at hb
    · simp only [Bool.and_eq_true, beq_iff_eq] at hb
      exact ⟨by omega, by omega, by omega, by omega⟩
    · simp only [Bool.and_eq_true, decide_eq_true_eq] at hb
      exact ⟨by omega, by omega, by omega, by omega⟩
  · exact trivial
  · have hc : cmdR r = 0 := hf
    unfold cmdR at hc
    by_cases h0 : chk 2 r.c = 0
    · exact h0
    · rw [if_neg h0] at hc; exact absurd hc h0
  · have hs : seqR r = true := unl_zero (by omega) hf
    unfold seqR at hs
    split at hs
    · simp only [beq_iff_eq] at hs
      exact ⟨by omega, by omega⟩
    · simp only [Bool.and_eq_true, decide_eq_true_eq] at hs
      exact ⟨by omega, by omega⟩
  · exact deps_vec m1 m7 (unl_zero (by omega) hf)
theorem wrF_le {r : Rc} {x : Nat} (hx : Ltr x) (h : fitF r x) : (wrF r x).length ≤ 131281 := by
  have e10 : ∀ y : Nat, y < 18446744073709551616 → (enc y).length ≤ 10 := fun y hy => by rw [enc_len y hy]; have := cnt_le 9 (y / 128); omega
  rcases hx with rfl | rfl | rfl | rfl | rfl | rfl | rfl | rfl
  · obtain ⟨h1, h2⟩ := h; have := e10 r.id.toNat (by omega); exact Nat.le_trans this (by omega)
  · obtain ⟨h1, h2⟩ := h; have := e10 r.n.toNat (by omega); exact Nat.le_trans this (by omega)
  · obtain ⟨h1, h2, h3, h4⟩ := h; have := e10 (8 * r.num + r.row).toNat (by omega); exact Nat.le_trans this (by omega)
  · obtain ⟨h1, h2, h3, h4⟩ := h; have := e10 (8 * r.round + r.who).toNat (by omega); exact Nat.le_trans this (by omega)
  · show 1 ≤ _; omega
  · exact encC_le h
  · obtain ⟨h1, h2⟩ := h
    show (if noopR r then [] else enc r.seq.toNat).length ≤ _
    split
    · exact Nat.zero_le _
    · have := e10 r.seq.toNat (by omega); omega
  · show (if noopR r then [] else packL 2 r.deps).length ≤ _
    have hv : isVec r.deps = true := h
    split
    · exact Nat.zero_le _
    · have e : packL 2 r.deps = Go.Wire1.tight r.deps := rfl
      have hv' := hv
      unfold isVec at hv'
      simp only [Bool.and_eq_true] at hv'
      have h7 : r.deps.length ≤ 7 := (of_decide_eq_true hv'.1).2
      have := diffK_le hv'.2 r.deps.length
      rw [e, tight_len hv]
      omega
theorem row_len {k : Nat} (h : k < 6) : (rowL.getD k []).length ≤ 6 := by
  rcases (by omega : k = 0 ∨ k = 1 ∨ k = 2 ∨ k = 3 ∨ k = 4 ∨ k = 5) with rfl | rfl | rfl | rfl | rfl | rfl <;> decide
theorem flat_le {r : Rc} : ∀ {xs : List Nat}, (∀ x ∈ xs, (wrF r x).length ≤ 131281) → (xs.flatMap (wrF r)).length ≤ 131281 * xs.length
  | [], _ => by simp
  | x :: xs, h => by
    have h1 := h x List.mem_cons_self
    have h2 := flat_le (r := r) (xs := xs) (fun y hy => h y (List.mem_cons_of_mem _ hy))
    rw [List.flatMap_cons, List.length_append, List.length_cons]
    omega
set_option maxHeartbeats 8000000 in
set_option maxRecDepth 100000 in
theorem renc_no (n : Int) (r : Rc) (w : World) (hr : Rok w r) (hR : Rws w) (hK : Knd w) (hz : chkR n r ≠ 0) :
    Calls Tryz.prog 13 #[.int .i64 n, .agg (rcs r).toArray] w fun e w' => e = .returned (.tuple #[.slice none 0 0, .int .i64 (chkR n r : Nat)]) ∧ Below w.heap.size w w' := by
  obtain ⟨V, hV⟩ : ∃ V, V = w.alloc (.cells (rcs r).toArray 31) := ⟨_, rfl⟩
  have Q : Hid (Blk V w.heap.size (rcs r)) := by rw [hV]; exact blk_new w 31 (rcs r)
  have BV : Hid (Below w.heap.size w V) := by rw [hV]; exact (Below.refl _ _).alloc (Nat.le_refl _) _
  have hVs : w.heap.size ≤ V.heap.size := BV.out.size
  have HR := hide hr
  have HW := hide hR
  have HK := hide hK
  obtain ⟨z, hzz⟩ : ∃ z, Hid (chkR n r = z) := ⟨_, rfl⟩
  rw [hzz.out] at hz ⊢
  have g1 : (((z : Nat) : Int) != 0) = true := by rw [bne_iff_ne]; omega
  clear hr hR hK hz
  go_enter Tryz.func13, Tryz.ntmps13
  go_upto_region 1 with fail
  rw [← hV]
  clear hV
  go_wp2_with (first | (refine wpList_load_mid rfl 31 _ rfl w.heap.size 0 rfl (rcs r) _ Q.out.range Tryz.underlying31 rfl (by kernel_rfl) ?_))
  refine (recCheck_any n r _ (HR.out.below BV.out (Nat.le_refl _)) (HW.out.below BV.out (Nat.le_refl _)) (HK.out.below BV.out (Nat.le_refl _))).mono ?_
  rintro e w1 ⟨rfl, hb1⟩
  rw [hzz.out]
  have B1 : Hid (Below w.heap.size w w1) := BV.out.trans (hb1.mono hVs)
  clear hb1
  go_wp2
  go_ret2
  exact ⟨rfl, B1.out⟩
end Go.Proofs.YtnogdjpbnhnmaaaGreatDoor
/- The contracts of the statements' own plain and num; one record stored into a box. -/
namespace Go.Proofs.YtnogdjpbnhnmaaaGreatDoor
open Go.RowKit Go.Wire1

def zeroL : List Value := [.int .i64 0, .int .i64 0, .int .i64 0, .int .i64 0, .int .i64 0, .bool false, .int .i64 0, .int .i64 0, .int .i64 0, .string ⟨#[]⟩, .string ⟨#[]⟩, .string ⟨#[]⟩, .string ⟨#[]⟩, .int .i64 0, .int .i64 0, .slice none 0 0, .int .i64 0, .int .i64 0]
/-- A Committed Get among three; its Deps lie in block b. -/
def plainR (b : Nat) : Rc := ⟨5, 0, 1, 0, 0, false, ⟨1, 0, 0, ⟨#[107]⟩, ⟨#[]⟩, ⟨#[]⟩, ⟨#[]⟩, 0⟩, 3, some ⟨b, 0, none⟩, 3, 3, [0, 5, 5], 0, 0⟩
theorem plain_chk (b : Nat) : chkR 3 (plainR b) = 0 := by kernel_rfl
theorem plain_ok {w : World} {b : Nat} (h : SegI w (some ⟨b, 0, none⟩) 3 [0, 5, 5]) : Rok w (plainR b) := ⟨h, by show (1 : Nat) ≤ _; omega, by show (0 : Nat) ≤ _; omega⟩
set_option maxHeartbeats 1000000 in
set_option maxRecDepth 100000 in
theorem num6_any (e : Int) (w : World) :
    Calls Tryz.prog 9 #[.int .i64 e] w fun e' w' => e' = .returned (.int .i64 e) ∧ w = w' := by
  go_enter Tryz.func9, Tryz.ntmps9
  go_wp2
  go_ret
  exact ⟨rfl, rfl⟩
/-- A box of a record, laid with zeros and then stored. -/
theorem box_stored {w U W : World} {q : Nat} {cs vs : List Value} (h : Blk U q cs) (hl : vs.length = cs.length) (hb : Below w.heap.size w U) (hq : w.heap.size ≤ q) (e : W = U.setCells q 0 vs) : Blk W q vs ∧ Below w.heap.size w W := by
  subst e
  exact ⟨blk_cells h hl, below_cells hq _ _ _ hb⟩

set_option maxHeartbeats 4000000 in
set_option maxRecDepth 100000 in
theorem plain6_any (w : World) :
    Calls Tryz.prog 8 #[] w fun e w' => e = .returned (.agg (rcs (plainR (w.heap.size + 1))).toArray) ∧ SegI w' (some ⟨w.heap.size + 1, 0, none⟩) 3 [0, 5, 5] ∧ Below w.heap.size w w' := by
  obtain ⟨U, hU⟩ : ∃ U, U = w.alloc (.cells zeroL.toArray 31) := ⟨_, rfl⟩
  obtain ⟨W, hW⟩ : ∃ W, W = U.alloc (.cells #[.int .i64 0, .int .i64 5, .int .i64 5] 3) := ⟨_, rfl⟩
  have hs : U.heap.size = w.heap.size + 1 := by rw [hU]; simp
  have BW : Hid (Below w.heap.size w W) := by rw [hW, hU]; exact ((Below.refl _ w).alloc (Nat.le_refl _) _).alloc (by simp) _
  have QM : Hid (Blk W w.heap.size zeroL) := by rw [hW, hU]; exact (blk_new w 31 zeroL).on ((Below.refl _ _).alloc (Nat.le_refl _) _)
  have SG : Hid (SegI W (some ⟨w.heap.size + 1, 0, none⟩) 3 [0, 5, 5]) := by
    rw [hW]
    exact segI_lit [0, 5, 5] (fit_of (by intro x hx; simp only [List.mem_cons, List.not_mem_nil, or_false] at hx; omega)) (by unfold maxLen; decide) rfl hs.symm rfl
  have TH : Hid (W.there w.heap.size 0 18) := QM.out.there
  obtain ⟨X, hX⟩ : ∃ X, X = W.setCells w.heap.size 0 (rcs (plainR (w.heap.size + 1))) := ⟨_, rfl⟩
  have R := hide (box_stored QM.out (by rfl) BW.out (Nat.le_refl _) hX)
  have SX : Hid (SegI X (some ⟨w.heap.size + 1, 0, none⟩) 3 [0, 5, 5]) := by
    have h := SG.out
    refine ⟨h.1, h.2.1, fun hn => ?_, h.2.2.2⟩
    obtain ⟨b, off, e, hc⟩ := h.2.2.1 hn
    refine ⟨b, off, e, fun j hj => ?_⟩
    injection e with e
    injection e with e1 e2 e3
    rw [hX, World.cell?_setCells_out _ _ _ _ _ (fun hb _ => by exfalso; simp only at hb; omega)]
    exact hc j hj
  go_enter Tryz.func8, Tryz.ntmps8
  go_upto_region 1 with fail
  have eU : w.alloc (.cells #[.int .i64 0, .int .i64 0, .int .i64 0, .int .i64 0, .int .i64 0, .bool false, .int .i64 0, .int .i64 0, .int .i64 0, .string ⟨#[]⟩, .string ⟨#[]⟩, .string ⟨#[]⟩, .string ⟨#[]⟩, .int .i64 0, .int .i64 0, .slice none 0 0, .int .i64 0, .int .i64 0] 31) = U := hU.symm
  rw [eU]
  have HW := hide hW
  have HX := hide hX
  clear hU eU hW hX
  go_wp2_with (first | (refine wpList_store_mid rfl 31 _ _ rfl w.heap.size 0 (rcs (plainR (w.heap.size + 1))).toArray rfl rfl (by rw [← HW.out]; exact TH.out) (by kernel_rfl) (by kernel_rfl) ?_))
  rw [← HW.out, ← HX.out]
  refine bodyPost_ret (results_cell_mid Tryz.results8 _ _ w.heap.size (rcs (plainR (w.heap.size + 1))) _ rfl R.out.1.range Tryz.underlying31 rfl (by kernel_rfl)) rfl ⟨rfl, SX.out, R.out.2⟩
end Go.Proofs.YtnogdjpbnhnmaaaGreatDoor
/- A struct built of parts, some of many cells, as the walk meets it. -/
namespace Go.Proofs.YtnogdjpbnhnmaaaGreatDoor
open Go.RowKit Go.Wire1

theorem wpList_build {P : Program} {ops : Array Oper} {rest : List Oper} {op : Oper} {a : Act} {w : World} {Q : Exit → Act → World → Prop} (hgd : op.guard = none) (ty : TypeId) (parts : List (Nat × Operand)) (ho : op.op = .build ty parts.toArray)
    (vs : List (Nat × Value)) (hv : (parts.map fun p => (p.1, a.eval p.2)) = vs) (cells : Array Value) (hb : P.built ty vs = some cells) (h : wpList P ops Q rest (a.put op.dst (.agg cells)) w) : wpList P ops Q (op :: rest) a w :=
  wpList_plain hgd fun _ hK => by
    unfold Oper.wp execOp
    have e : (parts.toArray.map fun (x : Nat × Operand) => match x with | (i, x) => (i, a.eval x)) = vs.toArray := by rw [← hv]; simp
    simp only [ho]
    rw [e]
    simp only [Sem.run_bind, Sem.run_pure, Result.andThen_ok, run_build w ty vs.toArray cells (by simpa using hb)]
    exact hK _ _ h
theorem built_writer (r : Rc) (b : Option Addr) (n c : Nat) : Tryz.prog.built 66 [(0, Value.agg (rcs r).toArray), (1, Value.slice b n c)] = some (rcs r ++ [Value.slice b n c]).toArray := by kernel_rfl
end Go.Proofs.YtnogdjpbnhnmaaaGreatDoor
