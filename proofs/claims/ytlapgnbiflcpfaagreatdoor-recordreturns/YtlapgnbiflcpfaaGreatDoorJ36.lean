/- Texts of the proof, joined. -/
import Derived.Test.YtlapgnbiflcpfaaGreatDoorJ33
import Derived.Test.YtlapgnbiflcpfaaGreatDoorJ28
/- The contract of package record's Encode. -/
namespace Go.Proofs.YtlapgnbiflcpfaaGreatDoor
open Go.RowKit Go.Wire1

def zeroW : List Value := [.int .i64 0, .int .i64 0, .int .i64 0, .int .i64 0, .int .i64 0, .bool false, .int .i64 0, .int .i64 0, .int .i64 0, .string ⟨#[]⟩, .string ⟨#[]⟩, .string ⟨#[]⟩, .string ⟨#[]⟩, .int .i64 0, .int .i64 0, .slice none 0 0, .int .i64 0, .int .i64 0, .slice none 0 0]
theorem unl_zero {b : Bool} {e : Nat} (he : e ≠ 0) (h : unlR b e = 0) : b = true := by
  cases b
  · exact absurd h he
  · rfl
theorem firstR_all {n : Int} {r : Rc} : ∀ {xs : List Nat}, firstR n r xs = 0 → ∀ x ∈ xs, faultR n r x = 0
  | [], _, _, hx => by cases hx
  | y :: ys, h, x, hx => by
    have h' : (if faultR n r y = 0 then firstR n r ys else faultR n r y) = 0 := h
    by_cases h0 : faultR n r y = 0
    · rw [if_pos h0] at h'
      rcases List.mem_cons.1 hx with rfl | hx
      · exact h0
      · exact firstR_all h' x hx
    · rw [if_neg h0] at h'; exact absurd h' h0
theorem chkR_zero {n : Int} {r : Rc} (h : chkR n r = 0) : isSizeB n = true ∧ isKindR r.kind = true ∧ extraR r = false ∧ firstR n r (rowR r.kind) = 0 := by
  unfold chkR at h
  cases h1 : isSizeB n with
  | false => rw [h1] at h; simp at h
  | true =>
    cases h2 : isKindR r.kind with
    | false => rw [h1, h2] at h; simp at h
    | true =>
      cases h3 : extraR r with
      | true => rw [h1, h2, h3] at h; simp at h
      | false => rw [h1, h2, h3] at h; exact ⟨rfl, rfl, rfl, by simpa using h⟩
theorem deps_vec {k : Nat} {r : Rc} (h1 : 1 ≤ k) (hk : k ≤ 7) (h : depsR (k : Int) r = true) : isVec r.deps = true := by
  rw [← covers_deps r h1 hk] at h
  unfold coversB at h
  simp only [Bool.and_eq_true] at h
  exact h.2.2.1
/-- What Check takes fits into bytes. -/
theorem fit_of_chk {n : Int} {r : Rc} (h : chkR n r = 0) : ∀ x ∈ rowR r.kind, fitF r x := by
  obtain ⟨h1, h2, _, h4⟩ := chkR_zero h
  obtain ⟨m, rfl, m1, m7⟩ := size_nat h1
  obtain ⟨k, hk, hk6⟩ := kindR_nat h2
  have hall := firstR_all h4
  have hhead : ∀ r : Rc, headB r = true → (0 ≤ r.id ∧ r.id ≤ 1073741824) ∧ (0 ≤ r.n ∧ r.n ≤ 1073741824) := fun r hr => by
    simp only [headB, isSizeB, Bool.and_eq_true, decide_eq_true_eq] at hr
    exact ⟨⟨by omega, by omega⟩, by omega, by omega⟩
  intro x hx
  have hf := hall x hx
  have hl : Ltr x := by
    have := lts_row hk6
    rw [show rowL.getD k [] = rowR r.kind by unfold rowR; rw [hk]; rfl] at this
    obtain ⟨p, hp, rfl⟩ := List.getElem_of_mem hx
    have h5 := this.ltr hp
    rwa [List.getD, List.getElem?_eq_getElem hp] at h5
  rcases hl with rfl | rfl | rfl | rfl | rfl | rfl | rfl | rfl
  · have h110 : (110 : Nat) ∈ rowR r.kind := by
      unfold rowR at hx ⊢
      rw [hk] at hx ⊢
      rcases (by omega : k = 0 ∨ k = 1 ∨ k = 2 ∨ k = 3 ∨ k = 4 ∨ k = 5) with rfl | rfl | rfl | rfl | rfl | rfl <;> revert hx <;> decide
    exact (hhead r (unl_zero (by omega) (hall 110 h110))).1
  · exact (hhead r (unl_zero (by omega) hf)).2
  · have hb : rinstB (m : Int) r.row r.num = true := unl_zero (by omega) hf
    simp only [rinstB, Bool.and_eq_true, decide_eq_true_eq] at hb
    exact ⟨by omega, by omega, by omega, by omega⟩
  · have hb : balR (m : Int) r = true := unl_zero (by omega) hf
    have h105 : (105 : Nat) ∈ rowR r.kind := by
      unfold rowR at hx ⊢
      rw [hk] at hx ⊢
      rcases (by omega : k = 0 ∨ k = 1 ∨ k = 2 ∨ k = 3 ∨ k = 4 ∨ k = 5) with rfl | rfl | rfl | rfl | rfl | rfl <;> revert hx <;> decide
    have hi : rinstB (m : Int) r.row r.num = true := unl_zero (by omega) (hall 105 h105)
    simp only [rinstB, Bool.and_eq_true, decide_eq_true_eq] at hi
    unfold balR at hb
    split at hb
    · simp only [Bool.and_eq_true, beq_iff_eq] at hb
      exact ⟨by omega, by omega, by omega, by omega⟩
    · simp only [Bool.and_eq_true, decide_eq_true_eq] at hb
      exact ⟨by omega, by omega, by omega, by omega⟩
  · exact trivial
  · have hc : cmdR r = 0 := hf
    unfold cmdR at hc
    by_cases h0 : chk 2 r.c = 0
    · exact h0
    · rw [if_neg h0] at hc; exact absurd hc h0
  · have hs : seqR r = true := unl_zero (by omega) hf
    unfold seqR at hs
    split at hs
    · simp only [beq_iff_eq] at hs
      exact ⟨by omega, by omega⟩
    · simp only [Bool.and_eq_true, decide_eq_true_eq] at hs
      exact ⟨by omega, by omega⟩
  · exact deps_vec m1 m7 (unl_zero (by omega) hf)
theorem wrF_le {r : Rc} {x : Nat} (hx : Ltr x) (h : fitF r x) : (wrF r x).length ≤ 131281 := by
  have e10 : ∀ y : Nat, y < 18446744073709551616 → (enc y).length ≤ 10 := fun y hy => by rw [enc_len y hy]; have := cnt_le 9 (y / 128); omega
  rcases hx with rfl | rfl | rfl | rfl | rfl | rfl | rfl | rfl
  · obtain ⟨h1, h2⟩ := h; have := e10 r.id.toNat (by omega); exact Nat.le_trans this (by omega)
  · obtain ⟨h1, h2⟩ := h; have := e10 r.n.toNat (by omega); exact Nat.le_trans this (by omega)
  · obtain ⟨h1, h2, h3, h4⟩ := h; have := e10 (8 * r.num + r.row).toNat (by omega); exact Nat.le_trans this (by omega)
  · obtain ⟨h1, h2, h3, h4⟩ := h; have := e10 (8 * r.round + r.who).toNat (by omega); exact Nat.le_trans this (by omega)
  · show 1 ≤ _; omega
  · exact encC_le h
  · obtain ⟨h1, h2⟩ := h
    show (if noopR r then [] else enc r.seq.toNat).length ≤ _
    split
    · exact Nat.zero_le _
    · have := e10 r.seq.toNat (by omega); omega
  · show (if noopR r then [] else packL 2 r.deps).length ≤ _
    have hv : isVec r.deps = true := h
    split
    · exact Nat.zero_le _
    · have e : packL 2 r.deps = Go.Wire1.tight r.deps := rfl
      have hv' := hv
      unfold isVec at hv'
      simp only [Bool.and_eq_true] at hv'
      have h7 : r.deps.length ≤ 7 := (of_decide_eq_true hv'.1).2
      have := diffK_le hv'.2 r.deps.length
      rw [e, tight_len hv]
      omega
theorem row_len {k : Nat} (h : k < 6) : (rowL.getD k []).length ≤ 6 := by
  rcases (by omega : k = 0 ∨ k = 1 ∨ k = 2 ∨ k = 3 ∨ k = 4 ∨ k = 5) with rfl | rfl | rfl | rfl | rfl | rfl <;> decide
theorem flat_le {r : Rc} : ∀ {xs : List Nat}, (∀ x ∈ xs, (wrF r x).length ≤ 131281) → (xs.flatMap (wrF r)).length ≤ 131281 * xs.length
  | [], _ => by simp
  | x :: xs, h => by
    have h1 := h x List.mem_cons_self
    have h2 := flat_le (r := r) (xs := xs) (fun y hy => h y (List.mem_cons_of_mem _ hy))
    rw [List.flatMap_cons, List.length_append, List.length_cons]
    omega
set_option maxHeartbeats 8000000 in
set_option maxRecDepth 100000 in
theorem renc_no (n : Int) (r : Rc) (w : World) (hr : Rok w r) (hR : Rws w) (hK : Knd w) (hz : chkR n r ≠ 0) :
    Calls Tryz.prog 8 #[.int .i64 n, .agg (rcs r).toArray] w fun e w' => e = .returned (.tuple #[.slice none 0 0, .int .i64 (chkR n r : Nat)]) ∧ Below w.heap.size w w' := by
  obtain ⟨V, hV⟩ : ∃ V, V = w.alloc (.cells (rcs r).toArray 30) := ⟨_, rfl⟩
  have Q : Hid (Blk V w.heap.size (rcs r)) := by rw [hV]; exact blk_new w 30 (rcs r)
  have BV : Hid (Below w.heap.size w V) := by rw [hV]; exact (Below.refl _ _).alloc (Nat.le_refl _) _
  have hVs : w.heap.size ≤ V.heap.size := BV.out.size
  have HR := hide hr
  have HW := hide hR
  have HK := hide hK
  obtain ⟨z, hzz⟩ : ∃ z, Hid (chkR n r = z) := ⟨_, rfl⟩
  rw [hzz.out] at hz ⊢
  have g1 : (((z : Nat) : Int) != 0) = true := by rw [bne_iff_ne]; omega
  clear hr hR hK hz
  go_enter Tryz.func8, Tryz.ntmps8
  go_upto_region 1 with fail
  rw [← hV]
  clear hV
  go_wp2_with (first | (refine wpList_load_mid rfl 30 _ rfl w.heap.size 0 rfl (rcs r) _ Q.out.range Tryz.underlying30 rfl (by kernel_rfl) ?_))
  refine (recCheck_any n r _ (HR.out.below BV.out (Nat.le_refl _)) (HW.out.below BV.out (Nat.le_refl _)) (HK.out.below BV.out (Nat.le_refl _))).mono ?_
  rintro e w1 ⟨rfl, hb1⟩
  rw [hzz.out]
  have B1 : Hid (Below w.heap.size w w1) := BV.out.trans (hb1.mono hVs)
  clear hb1
  go_wp2
  go_ret2
  exact ⟨rfl, B1.out⟩
end Go.Proofs.YtlapgnbiflcpfaaGreatDoor
