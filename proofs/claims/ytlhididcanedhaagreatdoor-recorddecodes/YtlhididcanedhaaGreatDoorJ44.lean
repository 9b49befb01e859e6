/- Texts of the proof, joined. -/
import Derived.Test.YtlhididcanedhaaGreatDoorJ30
import Derived.Test.YtlhididcanedhaaGreatDoorJ43
import Derived.Test.YtlhididcanedhaaGreatDoorJ27
import Derived.Test.YtlhididcanedhaaGreatDoorJ38
import Derived.Test.YtlhididcanedhaaGreatDoorJ03
import Derived.Test.YtlhididcanedhaaGreatDoorRows
import Derived.Test.YtlhididcanedhaaGreatDoorJ02
import Derived.WalkKit
import Derived.Deep.QuietTactic
import Derived.BigQuiet
/- What package record's Encode wrote is read back, whatever stands behind it; a proper beginning ends too early. -/
namespace Go.Proofs.YtlhididcanedhaaGreatDoor
open Go.RowKit Go.Wire1

/-- A field that is read as it was written. -/
structure Rst (k : Nat) (r : Rc) (x : Nat) (s s' : Rc) : Prop where
  e : ∀ t, rdE k s (wrF r x ++ t) x = 0
  l : ∀ t, rdL k s (wrF r x ++ t) x = t
  g : ∀ t, rdR k s (wrF r x ++ t) x = s'
  f : faultR (k : Int) s' x = 0
  cut : ∀ m, m < (wrF r x).length → rdE k s ((wrF r x).take m) x = 11
inductive Chn (k : Nat) (r : Rc) : List Nat → Rc → Rc → Prop
  | nil (s : Rc) : Chn k r [] s s
  | cons {x : Nat} {xs : List Nat} {s s' z : Rc} (h : Rst k r x s s') (t : Chn k r xs s' z) : Chn k r (x :: xs) s z
theorem chn_full {k : Nat} {r : Rc} : ∀ {xs : List Nat} {s z : Rc}, Chn k r xs s z → ∀ t, rdGo k xs s (xs.flatMap (wrF r) ++ t) = (z, ((unlR (t.length == 0) 68 : Nat) : Int))
  | _, _, _, .nil s, t => rfl
  | x :: xs, s, z, .cons h c, t => by
    rw [List.flatMap_cons, List.append_assoc]
    show (if rdE k s (wrF r x ++ _) x = 0 then _ else _) = _
    rw [if_pos (h.e _), h.g, if_pos h.f, h.l]
    exact chn_full c t
theorem rWh_enc {x : Nat} (h : x < 18446744073709551616) (t : List Int) : rWh (enc x ++ t) = (x, t, 0) := by
  unfold rWh
  rw [dec_enc x t h]
  simp
theorem rWh_cut {x m : Nat} (h : m < (enc x).length) : (rWh ((enc x).take m)).2.2 = 11 := by
  unfold rWh
  rw [dec_cut x m h]
  rfl
theorem t31_nat {x : Int} (h0 : 0 ≤ x) (h1 : x ≤ 1073741824) : t31 x.toNat = x := by unfold t31; omega
theorem stp_id {k : Nat} {r s : Rc} (h : 0 ≤ r.id ∧ r.id ≤ 1073741824) : Rst k r 119 s { s with id := r.id } := by
  have hx : r.id.toNat < 18446744073709551616 := by omega
  refine ⟨fun t => ?_, fun t => ?_, fun t => ?_, rfl, fun m hm => rWh_cut hm⟩
  · show (rWh (enc r.id.toNat ++ t)).2.2 = 0
    rw [rWh_enc hx]
  · show (rWh (enc r.id.toNat ++ t)).2.1 = t
    rw [rWh_enc hx]
  · show ({ s with id := t31 (rWh (enc r.id.toNat ++ t)).1 } : Rc) = _
    rw [rWh_enc hx, t31_nat h.1 h.2]
theorem stp_n {k : Nat} {r s : Rc} (h : 0 ≤ r.n ∧ r.n ≤ 1073741824) (hf : faultR (k : Int) { s with n := r.n } 110 = 0) : Rst k r 110 s { s with n := r.n } := by
  have hx : r.n.toNat < 18446744073709551616 := by omega
  refine ⟨fun t => ?_, fun t => ?_, fun t => ?_, hf, fun m hm => rWh_cut hm⟩
  · show (rWh (enc r.n.toNat ++ t)).2.2 = 0
    rw [rWh_enc hx]
  · show (rWh (enc r.n.toNat ++ t)).2.1 = t
    rw [rWh_enc hx]
  · show ({ s with n := t31 (rWh (enc r.n.toNat ++ t)).1 } : Rc) = _
    rw [rWh_enc hx, t31_nat h.1 h.2]
theorem pair_nat {a b : Int} (h0 : 0 ≤ b) (h1 : b ≤ 7) (h2 : 0 ≤ a) (h3 : a ≤ 1048576) : (8 * a + b).toNat < 18446744073709551616 ∧ t31 ((8 * a + b).toNat / 8) = a ∧ (((8 * a + b).toNat % 8 : Nat) : Int) = b := by
  unfold t31
  omega
theorem stp_inst {k : Nat} {r s : Rc} (h : 0 ≤ r.row ∧ r.row ≤ 7 ∧ 0 ≤ r.num ∧ r.num ≤ 1048576) (hf : faultR (k : Int) { s with num := r.num, row := r.row } 105 = 0) : Rst k r 105 s { s with num := r.num, row := r.row } := by
  obtain ⟨hx, e1, e2⟩ := pair_nat h.1 h.2.1 h.2.2.1 h.2.2.2
  refine ⟨fun t => ?_, fun t => ?_, fun t => ?_, hf, fun m hm => rWh_cut hm⟩
  · show (rWh (enc (8 * r.num + r.row).toNat ++ t)).2.2 = 0
    rw [rWh_enc hx]
  · show (rWh (enc (8 * r.num + r.row).toNat ++ t)).2.1 = t
    rw [rWh_enc hx]
  · show ({ s with num := t31 ((rWh (enc (8 * r.num + r.row).toNat ++ t)).1 / 8), row := (((rWh (enc (8 * r.num + r.row).toNat ++ t)).1 % 8 : Nat) : Int) } : Rc) = _
    rw [rWh_enc hx]
    show ({ s with num := t31 ((8 * r.num + r.row).toNat / 8), row := (((8 * r.num + r.row).toNat % 8 : Nat) : Int) } : Rc) = _
    rw [e1, e2]
theorem stp_bal {k : Nat} {r s : Rc} (h : 0 ≤ r.who ∧ r.who ≤ 7 ∧ 0 ≤ r.round ∧ r.round ≤ 65535) (hf : faultR (k : Int) { s with round := r.round, who := r.who } 98 = 0) : Rst k r 98 s { s with round := r.round, who := r.who } := by
  obtain ⟨hx, e1, e2⟩ := pair_nat h.1 h.2.1 h.2.2.1 (by omega)
  refine ⟨fun t => ?_, fun t => ?_, fun t => ?_, hf, fun m hm => rWh_cut hm⟩
  · show (rWh (enc (8 * r.round + r.who).toNat ++ t)).2.2 = 0
    rw [rWh_enc hx]
  · show (rWh (enc (8 * r.round + r.who).toNat ++ t)).2.1 = t
    rw [rWh_enc hx]
  · show ({ s with round := t31 ((rWh (enc (8 * r.round + r.who).toNat ++ t)).1 / 8), who := (((rWh (enc (8 * r.round + r.who).toNat ++ t)).1 % 8 : Nat) : Int) } : Rc) = _
    rw [rWh_enc hx]
    show ({ s with round := t31 ((8 * r.round + r.who).toNat / 8), who := (((8 * r.round + r.who).toNat % 8 : Nat) : Int) } : Rc) = _
    rw [e1, e2]
theorem stp_same {k : Nat} {r s : Rc} (hf : faultR (k : Int) { s with same := r.same } 115 = 0) : Rst k r 115 s { s with same := r.same } := by
  refine ⟨fun t => ?_, fun t => rfl, fun t => ?_, hf, fun m hm => ?_⟩
  · show (if (rOct ((if r.same then (1 : Int) else 0) :: t)).2.2 = 0 then ((unlR (decide ((rOct ((if r.same then (1 : Int) else 0) :: t)).1 ≤ 1)) 64 : Nat) : Int) else (0 : Int)) = 0
    cases r.same <;> rfl
  · show ({ s with same := (if r.same then (1 : Int) else 0) == 1 } : Rc) = _
    cases r.same <;> rfl
  · have h0 : m = 0 := by
      have : m < 1 := hm
      omega
    subst h0
    rfl
theorem stp_cmd {k : Nat} {r s : Rc} (h : chk 2 r.c = 0) (hn1 : -9223372036854775808 ≤ r.c.n) (hn2 : r.c.n ≤ 9223372036854775807) (hf : faultR (k : Int) { s with c := r.c } 99 = 0) : Rst k r 99 s { s with c := r.c } := by
  refine ⟨fun t => ?_, fun t => ?_, fun t => ?_, hf, fun m hm => ?_⟩
  · show (decC 2 (encC r.c ++ t)).2.2 = 0
    rw [decC_full h hn1 hn2]
  · show (encC r.c ++ t).drop (decC 2 (encC r.c ++ t)).2.1 = t
    rw [decC_full h hn1 hn2]
    simp
  · show ({ s with c := (decC 2 (encC r.c ++ t)).1 } : Rc) = _
    rw [decC_full h hn1 hn2]
  · show (decC 2 ((encC r.c).take m)).2.2 = 11
    rw [decC_cut h hm]
theorem stp_seq {k : Nat} {r s : Rc} (h : 0 ≤ r.seq ∧ r.seq ≤ 1073741824) (hc : s.c = r.c) (hz : noopR r = true → s.seq = r.seq) (hf : faultR (k : Int) { s with seq := r.seq } 113 = 0) : Rst k r 113 s { s with seq := r.seq } := by
  have hx : r.seq.toNat < 18446744073709551616 := by omega
  have hn : noopR s = noopR r := by unfold noopR; rw [hc]
  cases hq : noopR r with
  | true =>
    rw [hq] at hn
    have ew : wrF r 113 = [] := by show (if noopR r then _ else _) = _; rw [hq]; rfl
    refine ⟨fun t => ?_, fun t => ?_, fun t => ?_, hf, fun m hm => ?_⟩
    · show (if noopR s then _ else _) = _
      rw [hn]; rfl
    · show (if noopR s then _ else _) = _
      rw [hn, ew]; rfl
    · show (if noopR s then s else _) = _
      rw [hn, ← hz hq]; rfl
    · rw [ew] at hm
      exact absurd hm (Nat.not_lt_zero _)
  | false =>
    rw [hq] at hn
    have ew : wrF r 113 = enc r.seq.toNat := by show (if noopR r then _ else _) = _; rw [hq]; rfl
    refine ⟨fun t => ?_, fun t => ?_, fun t => ?_, hf, fun m hm => ?_⟩
    · show (if noopR s then _ else (rWh (wrF r 113 ++ t)).2.2) = _
      rw [hn, ew, rWh_enc hx]; rfl
    · show (if noopR s then _ else (rWh (wrF r 113 ++ t)).2.1) = _
      rw [hn, ew, rWh_enc hx]; rfl
    · show (if noopR s then s else { s with seq := t31 (rWh (wrF r 113 ++ t)).1 }) = _
      rw [hn, ew, rWh_enc hx, t31_nat h.1 h.2]; rfl
    · show (if noopR s then _ else (rWh ((wrF r 113).take m)).2.2) = _
      rw [ew] at hm
      rw [hn, ew, rWh_cut hm]; rfl
theorem stp_deps {k : Nat} {r s : Rc} (hv : isVec r.deps = true) (hl : r.deps.length = k) (hc : s.c = r.c) (hz : noopR r = true → r.deps = List.replicate k 0) (hf : faultR (k : Int) { s with deps := r.deps } 100 = 0) : Rst k r 100 s { s with deps := r.deps } := by
  have hn : noopR s = noopR r := by unfold noopR; rw [hc]
  cases hq : noopR r with
  | true =>
    rw [hq] at hn
    have ew : wrF r 100 = [] := by show (if noopR r then _ else _) = _; rw [hq]; rfl
    refine ⟨fun t => ?_, fun t => ?_, fun t => ?_, hf, fun m hm => ?_⟩
    · show (if noopR s then _ else _) = _
      rw [hn]; rfl
    · show (if noopR s then _ else _) = _
      rw [hn, ew]; rfl
    · show ({ s with deps := if noopR s then List.replicate k 0 else _ } : Rc) = _
      rw [hn, hz hq]; rfl
    · rw [ew] at hm
      exact absurd hm (Nat.not_lt_zero _)
  | false =>
    rw [hq] at hn
    have ew : wrF r 100 = packR 2 r.deps := by show (if noopR r then _ else packL 2 r.deps) = _; rw [hq, packR_vec (.inr rfl) hv]; rfl
    have eb : ∀ t, upk 2 (k : Int) (packR 2 r.deps ++ t) = .ok (r.deps, (packR 2 r.deps).length) := fun t => by rw [← hl]; exact upk_back (.inr rfl) hv
    refine ⟨fun t => ?_, fun t => ?_, fun t => ?_, hf, fun m hm => ?_⟩
    · show (if noopR s then _ else ((upE (upk 2 (k : Int) (wrF r 100 ++ t)) : Nat) : Int)) = _
      rw [hn, ew, eb]; rfl
    · show (if noopR s then _ else (wrF r 100 ++ t).drop (upN (upk 2 (k : Int) (wrF r 100 ++ t)))) = _
      rw [hn, ew, eb, if_neg (by decide)]
      show (packR 2 r.deps ++ t).drop (packR 2 r.deps).length = t
      simp
    · show ({ s with deps := if noopR s then List.replicate k 0 else upL (upk 2 (k : Int) (wrF r 100 ++ t)) } : Rc) = _
      rw [hn, ew, eb]; rfl
    · show (if noopR s then _ else ((upE (upk 2 (k : Int) ((wrF r 100).take m)) : Nat) : Int)) = _
      rw [ew] at hm
      have ec : upk 2 (k : Int) ((packR 2 r.deps).take m) = .error 11 := by rw [← hl]; exact upk_cut (.inr rfl) hv hm
      rw [hn, ew, ec]; rfl

theorem empty_str {s : ByteArray} (h : s.toList.isEmpty = true) : s = ⟨#[]⟩ := by
  have h1 : s.toList = [] := List.isEmpty_iff.1 h
  refine (teq_iff s ⟨#[]⟩).1 ?_
  unfold teq
  rw [h1]
  kernel_rfl
theorem zero_cm {c : Cm} (h : zeroCm c = true) : c = zeroC := by
  obtain ⟨k, l, q, a, b, v, o, n⟩ := c
  simp only [zeroCm, Bool.and_eq_true, beq_iff_eq] at h
  obtain ⟨h1, h2, h3, h4, h5, h6, h7, h8⟩ := h
  rw [h1, h2, h3, empty_str h4, empty_str h5, empty_str h6, empty_str h7, h8]
  rfl
theorem extra_zero {r : Rc} (h : extraR r = false) {x : Nat} (hx : x ∈ allR) (hn : x ∉ rowR r.kind) : zeroR r x = true := by
  unfold extraR at h
  have := (List.any_eq_false.1 h) x hx
  cases hz : zeroR r x with
  | true => rfl
  | false =>
    exfalso
    apply this
    rw [hz]
    simp [hn]
theorem z_inst {r : Rc} (h : zeroR r 105 = true) : r.row = 0 ∧ r.num = 0 := by
  simpa [zeroR] using h
theorem z_bal {r : Rc} (h : zeroR r 98 = true) : r.round = 0 ∧ r.who = 0 := by
  simpa [zeroR] using h
theorem z_same {r : Rc} (h : zeroR r 115 = true) : r.same = false := by
  simpa [zeroR] using h
theorem z_seq {r : Rc} (h : zeroR r 113 = true) : r.seq = 0 := by
  simpa [zeroR] using h
theorem z_deps {r : Rc} (h : zeroR r 100 = true) : r.deps = [] := by
  simpa [zeroR] using h
theorem z_id {r : Rc} (h : zeroR r 119 = true) : r.id = 0 := by
  simpa [zeroR] using h
theorem z_n {r : Rc} (h : zeroR r 110 = true) : r.n = 0 := by
  simpa [zeroR] using h
theorem seq_noop {k : Int} {r : Rc} (h : faultR k r 113 = 0) (hn : noopR r = true) : r.seq = 0 := by
  have h1 := unl_zero (by decide) (show unlR (seqR r) 65 = 0 from h)
  unfold seqR at h1
  rw [hn, if_pos rfl] at h1
  simpa using h1
theorem deps_len {k : Nat} {r : Rc} (h : faultR (k : Int) r 100 = 0) : r.deps.length = k := by
  have h1 := unl_zero (by decide) (show unlR (depsR (k : Int) r) 65 = 0 from h)
  simp only [depsR, Bool.and_eq_true, decide_eq_true_eq] at h1
  omega
theorem deps_noop {k : Nat} {r : Rc} (h : faultR (k : Int) r 100 = 0) (hn : noopR r = true) : r.deps = List.replicate k 0 := by
  have h1 := unl_zero (by decide) (show unlR (depsR (k : Int) r) 65 = 0 from h)
  rw [List.eq_replicate_iff]
  refine ⟨deps_len h, fun b hb => ?_⟩
  simp only [depsR, mostR, hn, if_pos, Bool.and_eq_true, decide_eq_true_eq, List.all_eq_true] at h1
  have := h1.2 b hb
  omega
set_option maxRecDepth 100000 in
theorem rec_chain {k : Nat} {r : Rc} (h : chkR (k : Int) r = 0) (hn1 : -9223372036854775808 ≤ r.c.n) (hn2 : r.c.n ≤ 9223372036854775807) : ∃ z, Chn k r (rowR r.kind) { zeroRc with kind := r.kind } z ∧ er z = er r := by
  obtain ⟨-, hk, hx, hf⟩ := chkR_zero h
  have hft := firstR_all hf
  have hfit := fit_of_chk h
  have hz := fun {x} => @extra_zero r hx x
  obtain ⟨j, hj, hj6⟩ := kindR_nat hk
  have hj0 : 0 < j := by
    simp only [isKindR, Bool.and_eq_true, decide_eq_true_eq] at hk
    omega
  rcases (by omega : j = 1 ∨ j = 2 ∨ j = 3 ∨ j = 4 ∨ j = 5) with rfl | rfl | rfl | rfl | rfl
  · have hr : rowR r.kind = [119, 110] := by rw [hj]; rfl
    rw [hr] at hft hfit hz ⊢
    refine ⟨_, .cons (stp_id (hfit 119 (by decide))) (.cons (stp_n (hfit 110 (by decide)) (hft 110 (by decide))) (.nil _)), ?_⟩
    have z1 := z_inst (hz (x := 105) (by decide) (by decide))
    have z2 := z_bal (hz (x := 98) (by decide) (by decide))
    have z3 := z_same (hz (x := 115) (by decide) (by decide))
    have z4 := zero_cm (hz (x := 99) (by decide) (by decide))
    have z5 := z_seq (hz (x := 113) (by decide) (by decide))
    have z6 := z_deps (hz (x := 100) (by decide) (by decide))
    simp [er, Rc.lay, zeroRc, z1, z2, z3, z4, z5, z6]
  · have hr : rowR r.kind = [105, 98] := by rw [hj]; rfl
    rw [hr] at hft hfit hz ⊢
    refine ⟨_, .cons (stp_inst (hfit 105 (by decide)) (hft 105 (by decide))) (.cons (stp_bal (hfit 98 (by decide)) (hft 98 (by decide))) (.nil _)), ?_⟩
    have z1 := z_id (hz (x := 119) (by decide) (by decide))
    have z2 := z_n (hz (x := 110) (by decide) (by decide))
    have z3 := z_same (hz (x := 115) (by decide) (by decide))
    have z4 := zero_cm (hz (x := 99) (by decide) (by decide))
    have z5 := z_seq (hz (x := 113) (by decide) (by decide))
    have z6 := z_deps (hz (x := 100) (by decide) (by decide))
    simp [er, Rc.lay, zeroRc, z1, z2, z3, z4, z5, z6]
  · have hr : rowR r.kind = [105, 98, 115, 99, 113, 100] := by rw [hj]; rfl
    rw [hr] at hft hfit hz ⊢
    refine ⟨_, .cons (stp_inst (hfit 105 (by decide)) (hft 105 (by decide))) (.cons (stp_bal (hfit 98 (by decide)) (hft 98 (by decide))) (.cons (stp_same (hft 115 (by decide))) (.cons (stp_cmd (hfit 99 (by decide)) hn1 hn2 (hft 99 (by decide))) (.cons (stp_seq (hfit 113 (by decide)) rfl (fun q => (seq_noop (hft 113 (by decide)) q).symm) (hft 113 (by decide))) (.cons (stp_deps (hfit 100 (by decide)) (deps_len (hft 100 (by decide))) rfl (deps_noop (hft 100 (by decide))) (hft 100 (by decide))) (.nil _)))))), ?_⟩
    have z1 := z_id (hz (x := 119) (by decide) (by decide))
    have z2 := z_n (hz (x := 110) (by decide) (by decide))
    simp [er, Rc.lay, zeroRc, z1, z2]
  · have hr : rowR r.kind = [105, 98, 99, 113, 100] := by rw [hj]; rfl
    rw [hr] at hft hfit hz ⊢
    refine ⟨_, .cons (stp_inst (hfit 105 (by decide)) (hft 105 (by decide))) (.cons (stp_bal (hfit 98 (by decide)) (hft 98 (by decide))) (.cons (stp_cmd (hfit 99 (by decide)) hn1 hn2 (hft 99 (by decide))) (.cons (stp_seq (hfit 113 (by decide)) rfl (fun q => (seq_noop (hft 113 (by decide)) q).symm) (hft 113 (by decide))) (.cons (stp_deps (hfit 100 (by decide)) (deps_len (hft 100 (by decide))) rfl (deps_noop (hft 100 (by decide))) (hft 100 (by decide))) (.nil _))))), ?_⟩
    have z1 := z_id (hz (x := 119) (by decide) (by decide))
    have z2 := z_n (hz (x := 110) (by decide) (by decide))
    have z3 := z_same (hz (x := 115) (by decide) (by decide))
    simp [er, Rc.lay, zeroRc, z1, z2, z3]
  · have hr : rowR r.kind = [105, 99, 113, 100] := by rw [hj]; rfl
    rw [hr] at hft hfit hz ⊢
    refine ⟨_, .cons (stp_inst (hfit 105 (by decide)) (hft 105 (by decide))) (.cons (stp_cmd (hfit 99 (by decide)) hn1 hn2 (hft 99 (by decide))) (.cons (stp_seq (hfit 113 (by decide)) rfl (fun q => (seq_noop (hft 113 (by decide)) q).symm) (hft 113 (by decide))) (.cons (stp_deps (hfit 100 (by decide)) (deps_len (hft 100 (by decide))) rfl (deps_noop (hft 100 (by decide))) (hft 100 (by decide))) (.nil _)))), ?_⟩
    have z1 := z_id (hz (x := 119) (by decide) (by decide))
    have z2 := z_n (hz (x := 110) (by decide) (by decide))
    have z3 := z_same (hz (x := 115) (by decide) (by decide))
    have z4 := z_bal (hz (x := 98) (by decide) (by decide))
    simp [er, Rc.lay, zeroRc, z1, z2, z3, z4]

/-- What was written is read back. -/
theorem decR_back {n : Int} {r : Rc} (h : chkR n r = 0) (hn1 : -9223372036854775808 ≤ r.c.n) (hn2 : r.c.n ≤ 9223372036854775807) : er (decR n (recB r)).1 = er r ∧ (decR n (recB r)).2 = 0 := by
  obtain ⟨hs, hk, -, -⟩ := chkR_zero h
  obtain ⟨k, rfl, -, -⟩ := size_nat hs
  obtain ⟨z, hc, he⟩ := rec_chain h hn1 hn2
  have e := chn_full hc []
  rw [List.append_nil] at e
  have e2 : rdRec k (recB r) = (z, 0) := by
    show (if isKindR r.kind then rdGo k (rowR r.kind) { zeroRc with kind := r.kind } _ else _) = _
    rw [hk, if_pos rfl, e]
    rfl
  unfold decR
  rw [hs, if_pos rfl, show ((k : Int)).toNat = k from rfl, e2]
  exact ⟨he, rfl⟩
end Go.Proofs.YtlhididcanedhaaGreatDoor
/- The contract of package record's Encode. -/
namespace Go.Proofs.YtlhididcanedhaaGreatDoor
open Go.RowKit Go.Wire1

/-- In the midst of Encode's loop: the writer, and the iterator at its place. -/
structure Lw (w wr : World) (it q : Nat) (S : ByteArray) (p : Nat) (r : Rc) (out : List Int) : Prop where
  wtr : Wx w wr q r out
  iter : wr.heap[it]? = some (.stringIter S p)
theorem Wx.lt {w0 w : World} {q : Nat} {r : Rc} {out : List Int} (h : Wx w0 w q r out) : q < w.heap.size := by obtain ⟨v, h⟩ := h; exact h.lt
theorem Wx.low {w0 w : World} {q : Nat} {r : Rc} {out : List Int} (h : Wx w0 w q r out) : Below w0.heap.size w0 w := by obtain ⟨v, h⟩ := h; exact h.low
theorem Lw.lt {w wr : World} {it q : Nat} {S : ByteArray} {p : Nat} {r : Rc} {out : List Int} (h : Lw w wr it q S p r out) : it < wr.heap.size := (Array.getElem?_eq_some_iff.1 h.iter).1
theorem Lw.ne {w wr : World} {it q : Nat} {S : ByteArray} {p : Nat} {r : Rc} {out : List Int} (h : Lw w wr it q S p r out) : it ≠ q := by
  intro e
  obtain ⟨v, hw⟩ := h.wtr
  obtain ⟨cs, h1⟩ := hw.tag
  have h2 := h.iter
  rw [e, h1] at h2
  cases h2
theorem Lw.on {w wr w' : World} {it q : Nat} {S : ByteArray} {p : Nat} {r : Rc} {out : List Int} (h : Lw w wr it q S p r out) (hb : Below wr.heap.size wr w') : Lw w w' it q S p r out :=
  ⟨h.wtr.on hb, (hb.block it h.lt).trans h.iter⟩
theorem Lw.put {w wr w' : World} {it q : Nat} {S : ByteArray} {p : Nat} {r : Rc} {out M : List Int} (h : Lw w wr it q S p r out) (hw : Wx w w' q r M) (hk : Lib.OthersKept 5 (some q) wr w') : Lw w w' it q S p r M :=
  ⟨hw, Lib.OthersKept.iter hk h.iter h.ne⟩
theorem own_iter {w : World} {B : Nat} {e : TypeId} {s : Nat} {v : Value} {n : Nat} {xs : List Value} (h : w.ownsRow B e s v n xs) {it p : Nat} {S : ByteArray} (hi : w.heap[it]? = some (.stringIter S p)) (p' : Nat) : (w.iterAt it S p').ownsRow B e s v n xs := by
  refine ⟨h.1, ?_⟩
  rcases h.2 with h2 | ⟨g, cap, cur, rfl, hB, hh, rest⟩
  · exact .inl h2
  · refine .inr ⟨g, cap, cur, rfl, hB, ?_, rest⟩
    rw [Lib.iterAt_other _ _ _ _ _ (by intro e; rw [e, hi] at hh; cases hh)]
    exact hh
theorem Lw.next {w wr : World} {it q : Nat} {S : ByteArray} {p : Nat} {r : Rc} {out : List Int} (h : Lw w wr it q S p r out) (h1 : w.heap.size ≤ it) (p' : Nat) : Lw w (wr.iterAt it S p') it q S p' r out := by
  obtain ⟨v, hw⟩ := h.wtr
  obtain ⟨cs, ht⟩ := hw.tag
  have hne := h.ne
  exact ⟨⟨v, ⟨hw.box.iterAt (Ne.symm hne), ⟨cs, (Lib.iterAt_other _ _ _ _ _ (Ne.symm hne)).trans ht⟩, own_iter hw.own h.iter p', Lib.below_iterAt hw.low h1 _ _, hw.hq⟩⟩, Lib.iterAt_heap _ _ _ _ _ h.iter⟩
theorem Lw.pos {w wr : World} {it q : Nat} {S : ByteArray} {p : Nat} {r : Rc} {out : List Int} (h : Lw w wr it q S p r out) : wr.iterPos it = p := by unfold World.iterPos; rw [h.iter]
end Go.Proofs.YtlhididcanedhaaGreatDoor
/- What is read of bytes with one byte turned: the mathematics. -/
namespace Go.Proofs.YtlhididcanedhaaGreatDoor
open Go.RowKit Go.Wire1

end Go.Proofs.YtlhididcanedhaaGreatDoor
/- How long a valid record's bytes are; that they are bytes. -/
namespace Go.Proofs.YtlhididcanedhaaGreatDoor
open Go.RowKit Go.Wire1

end Go.Proofs.YtlhididcanedhaaGreatDoor
/- The contract of SameInts: two lists of ints in memory, alike or not; it only reads. -/
namespace Go.Proofs.YtlhididcanedhaaGreatDoor
open Go.RowKit Go.Wire1

set_option maxHeartbeats 400000 in
set_option maxRecDepth 100000 in
theorem sameI_any (a b : Option Addr) (n m cap cap' : Nat) (xs ys : List Int) (w : World) (ha : SegI w a n xs) (hb : SegI w b m ys) :
    Calls Tryz.prog 29 #[.slice a n cap, .slice b m cap'] w fun e w' => e = .returned (.bool (sameB xs ys)) ∧ ∃ q, w' = w.drewN q := by
  obtain ⟨hn, hn', ha, -⟩ := ha
  obtain ⟨hm, hm', hb, -⟩ := hb
  unfold maxLen at hn' hm'
  by_cases hnm : n = m
  · subst hnm
    have HN : Hid (xs.length = n) := hn
    have HM : Hid (ys.length = n) := hm
    clear hn hm
    go_enter Tryz.func29, Tryz.ntmps29
    go_wp2
    go_loopw [5] (fun i wr => ∃ k q : Nat, i = .int .i64 (k : Int) ∧ k ≤ n ∧ Hid (xs.take k = ys.take k) ∧ wr = w.drewN q) (fun i _ => n - (intOf i).toNat)
    case atStart => exact ⟨0, 0, rfl, Nat.zero_le _, rfl, rfl⟩
    case round =>
      obtain ⟨k, q, rfl, hk, HT, rfl⟩ := hrel
      by_cases hlt : k < n
      · obtain ⟨ba, oa, rfl, hca⟩ := ha (by omega)
        obtain ⟨bb, ob, rfl, hcb⟩ := hb (by omega)
        have ca : w.cell? ⟨ba, oa + k, none⟩ = some (.int .i64 (xs.getD k 0)) := hca k hlt
        have cb : w.cell? ⟨bb, ob + k, none⟩ = some (.int .i64 (ys.getD k 0)) := hcb k hlt
        clear ha hb hca hcb
        by_cases he : xs.getD k 0 = ys.getD k 0
        · have HT' : Hid (xs.take (k + 1) = ys.take (k + 1)) := take_step (by have := HN.out; omega) (by have := HM.out; omega) HT.out he
          rw [← he] at cb
          clear he
          generalize xs.getD k 0 = c at ca cb
          go_wp2
          go_quiet (fail)
          go_wp2
          go_roundw
          case rel => exact ⟨k + 1, _, by go_num, by omega, HT', rfl⟩
          case measure => simp [intOf]; omega
        · have HS : Hid (sameB xs ys = false) := same_no he
          have hb' : (xs.getD k 0 != ys.getD k 0) = true := by simpa using he
          clear he
          generalize xs.getD k 0 = c at ca hb'
          generalize ys.getD k 0 = d at cb hb'
          go_wp2
          go_quiet (fail)
          go_wp2
          go_ret
          exact ⟨by rw [HS.out]; rfl, _, by rw [World.drewN_drewN]⟩
      · have HS : Hid (sameB xs ys = true) := same_yes (by have := HT.out; rwa [List.take_of_length_le (by have := HN.out; omega), List.take_of_length_le (by have := HM.out; omega)] at this)
        go_wp2
        go_ret
        exact ⟨by rw [HS.out]; rfl, _, rfl⟩
  · have HS : Hid (sameB xs ys = false) := same_len (by omega)
    have hne : ((n : Int) != (m : Int)) = true := by rw [bne_iff_ne]; omega
    go_enter Tryz.func29, Tryz.ntmps29
    go_wp2
    go_ret
    exact ⟨by rw [HS.out]; rfl, 0, rfl⟩
end Go.Proofs.YtlhididcanedhaaGreatDoor
