/- Texts of the proof, joined. -/
import Derived.Test.YtnjihfbghaefoaaGreatDoorJ17
import Derived.Test.YtnjihfbghaefoaaGreatDoorJ05
import Derived.Test.YtnjihfbghaefoaaGreatDoorJ10
import Derived.Test.YtnjihfbghaefoaaGreatDoorJ11
import Derived.Test.YtnjihfbghaefoaaGreatDoorJ28
import Derived.Test.YtnjihfbghaefoaaGreatDoorJ02
import Derived.Test.YtnjihfbghaefoaaGreatDoorJ31
/- The plain mathematics of reading a vector's two layouts; nothing of the program is named here. -/
namespace Go.Wire1
open Go.RowKit

/-- What reading answers: the entries and their bytes, or the error's number. -/
abbrev Rd := Except Nat (List Int × Nat)
/-- Version 1: k numbers. -/
def rd1 (l : List Int) : Nat → Rd
  | 0 => .ok ([], 0)
  | k + 1 => match rd1 l k with
    | .error e => .error e
    | .ok (xs, p) => match dec (l.drop p) with
      | .error i => .error (11 + i)
      | .ok (x, m) => if 1048576 < x then .error 32 else .ok (xs ++ [(x : Int)], p + m)
def last0 (xs : List Int) : Int := xs.getLastD 0
/-- A difference and the entry that it makes. -/
def entry (q : Int) (l : List Int) : Except Nat (Int × Nat) := match dec l with
  | .error i => .error (11 + i)
  | .ok (u, m) => if unzig u = 0 then .error 34 else if unzig u < -q ∨ 1048576 - q < unzig u then .error 32 else .ok (q + unzig u, m)
/-- Version 2, behind the mask: k entries. -/
def rd2 (l : List Int) (mask p0 : Nat) : Nat → Rd
  | 0 => .ok ([], p0)
  | k + 1 => match rd2 l mask p0 k with
    | .error e => .error e
    | .ok (xs, p) => if mask / 2 ^ k % 2 = 1 then
        (match entry (last0 xs) (l.drop p) with
          | .error e => .error e
          | .ok (y, m) => .ok (xs ++ [y], p + m))
      else .ok (xs ++ [last0 xs], p)
def upk2 (l : List Int) (n : Nat) : Rd := match dec l with
  | .error i => .error (11 + i)
  | .ok (mask, m) => if 2 ^ n ≤ mask then .error 33 else rd2 l mask m n
def upk (v n : Int) (l : List Int) : Rd := if v = 1 ∨ v = 2 then (if 1 ≤ n ∧ n ≤ 7 then (if v = 1 then rd1 l n.toNat else upk2 l n.toNat) else .error 3) else .error 2
def upL : Rd → List Int
  | .ok (xs, _) => xs
  | .error _ => []
def upN : Rd → Nat
  | .ok (_, p) => p
  | .error _ => 0
def upE : Rd → Nat
  | .ok _ => 0
  | .error e => e

end Go.Wire1
/- The plain mathematics: what is packed is read back; every beginning ends too early; what is read has one form. -/
namespace Go.Wire1
open Go.RowKit

theorem vec_parts {l : List Int} (h : isVec l = true) : okL l = true ∧ 1 ≤ l.length ∧ l.length ≤ 7 := by
  unfold isVec at h
  simp only [Bool.and_eq_true] at h
  have := of_decide_eq_true h.1
  exact ⟨h.2, this.1, this.2⟩
theorem packE_vec {v : Int} {l : List Int} (hv : v = 1 ∨ v = 2) (h : isVec l = true) : packE v l = 0 := by
  have hp := vec_parts h
  unfold packE fault
  rw [if_pos hv, show okW l.length = true from decide_eq_true ⟨hp.2.1, hp.2.2⟩, hp.1]; rfl
theorem packR_vec {v : Int} {l : List Int} (hv : v = 1 ∨ v = 2) (h : isVec l = true) : packR v l = packL v l := by
  unfold packR; rw [if_pos (packE_vec hv h)]
theorem packR_pos {v : Int} {l : List Int} (hv : v = 1 ∨ v = 2) (h : isVec l = true) : 1 ≤ (packR v l).length ∧ (packR v l).length ≤ 100 := by
  have hp := vec_parts h
  rw [packR_vec hv h]
  unfold packL
  rcases hv with rfl | rfl
  · rw [if_pos rfl]
    have := plainK_len hp.1 l.length
    omega
  · rw [if_neg (by decide), tight_len h]
    have := diffK_le hp.1 l.length
    omega

theorem take_add (b : List Int) (p m : Nat) : b.take (p + m) = b.take p ++ (b.drop p).take m := by rw [List.take_add]

end Go.Wire1
/- The contract of mootref.SameCmd. -/
namespace Go.Proofs.YtnjihfbghaefoaaGreatDoor
open Go.RowKit Go.Wire1

def sameC (c d : Cm) : Bool := (c.kind == d.kind) && (c.client == d.client) && (c.req == d.req) && (c.n == d.n) && teq c.key d.key && teq c.key2 d.key2 && teq c.val d.val && teq c.old d.old

end Go.Proofs.YtnjihfbghaefoaaGreatDoor
/- What is read of bytes with one byte turned: the mathematics. -/
namespace Go.Proofs.YtnjihfbghaefoaaGreatDoor
open Go.RowKit Go.Wire1

theorem byt_tx (s : ByteArray) : Byt (tx s) := fun z hz => by
  obtain ⟨u, _, rfl⟩ := List.mem_map.1 hz
  have := u.toNat_lt
  omega
theorem byt_ptx (s : ByteArray) : Byt (ptx s) := byt_app (byt_enc _) (byt_tx _)
theorem byt_restC (c : Cm) : Byt (restC c) := by
  unfold restC
  split
  · exact byt_app (byt_enc _) (byt_ptx _)
  · split
    · exact byt_app (byt_ptx _) (byt_ptx _)
    · split
      · exact byt_ptx _
      · split
        · exact byt_enc _
        · intro z hz; simp at hz
theorem byt_encC {c : Cm} (h0 : 0 ≤ c.kind) (h8 : c.kind ≤ 8) : Byt (encC c) := by
  unfold encC
  split
  · intro z hz; simp at hz; omega
  · exact byt_app (byt_app (byt_app (byt_app (fun z hz => by simp at hz; omega) (byt_enc _)) (byt_enc _)) (byt_ptx _)) (byt_restC c)
end Go.Proofs.YtnjihfbghaefoaaGreatDoor
/- How long a valid record's bytes are; that they are bytes. -/
namespace Go.Proofs.YtnjihfbghaefoaaGreatDoor
open Go.RowKit Go.Wire1

theorem wrF_small {r : Rc} {x : Nat} (hx : Ltr x) (h9 : x ≠ 99) (h : fitF r x) : (wrF r x).length ≤ 100 := by
  have e10 : ∀ y : Nat, y < 18446744073709551616 → (enc y).length ≤ 10 := fun y hy => (enc_le y hy).2
  rcases hx with rfl | rfl | rfl | rfl | rfl | rfl | rfl | rfl
  · obtain ⟨h1, h2⟩ := h; have := e10 r.id.toNat (by omega); exact Nat.le_trans this (by omega)
  · obtain ⟨h1, h2⟩ := h; have := e10 r.n.toNat (by omega); exact Nat.le_trans this (by omega)
  · obtain ⟨h1, h2, h3, h4⟩ := h; have := e10 (8 * r.num + r.row).toNat (by omega); exact Nat.le_trans this (by omega)
  · obtain ⟨h1, h2, h3, h4⟩ := h; have := e10 (8 * r.round + r.who).toNat (by omega); exact Nat.le_trans this (by omega)
  · show 1 ≤ _; omega
  · exact absurd rfl h9
  · obtain ⟨h1, h2⟩ := h
    show (if noopR r then [] else enc r.seq.toNat).length ≤ _
    split
    · exact Nat.zero_le _
    · have := e10 r.seq.toNat (by omega); omega
  · show (if noopR r then [] else packL 2 r.deps).length ≤ _
    have hv : isVec r.deps = true := h
    split
    · exact Nat.zero_le _
    · rw [← packR_vec (.inr rfl) hv]
      exact (packR_pos (.inr rfl) hv).2
theorem row_ltr {k x : Nat} (hk : k < 6) (hx : x ∈ rowL.getD k []) : Ltr x := by
  rcases (by omega : k = 0 ∨ k = 1 ∨ k = 2 ∨ k = 3 ∨ k = 4 ∨ k = 5) with rfl | rfl | rfl | rfl | rfl | rfl
  · exact absurd hx List.not_mem_nil
  all_goals
    simp only [rowL, List.getD_eq_getElem?_getD, List.getElem?_cons_zero, List.getElem?_cons_succ, Option.getD_some, List.mem_cons, List.not_mem_nil, or_false] at hx
    unfold Ltr
    omega
theorem recB_len {n : Int} {r : Rc} (h : chkR n r = 0) : 0 < (recB r).length ∧ (recB r).length < 262144 := by
  obtain ⟨-, hk, -, -⟩ := chkR_zero h
  have hfit := fit_of_chk h
  obtain ⟨j, hj, hj6⟩ := kindR_nat hk
  have er : rowR r.kind = rowL.getD j [] := by rw [hj]; rfl
  rw [er] at hfit
  have hs : ∀ x ∈ rowL.getD j [], x ≠ 99 → (wrF r x).length ≤ 100 := fun x hx h9 => wrF_small (row_ltr hj6 hx) h9 (hfit x hx)
  have hc : ∀ x ∈ rowL.getD j [], (wrF r x).length ≤ 131281 := fun x hx => wrF_le (row_ltr hj6 hx) (hfit x hx)
  unfold recB
  rw [er, List.length_cons]
  refine ⟨by omega, ?_⟩
  rcases (by omega : j = 0 ∨ j = 1 ∨ j = 2 ∨ j = 3 ∨ j = 4 ∨ j = 5) with rfl | rfl | rfl | rfl | rfl | rfl
  · show 0 + 1 < _; omega
  all_goals
    simp only [rowL, List.getD_eq_getElem?_getD, List.getElem?_cons_zero, List.getElem?_cons_succ, Option.getD_some, List.mem_cons, List.not_mem_nil, or_false, forall_eq_or_imp, forall_eq] at hs hc
    simp only [rowL, List.getD_eq_getElem?_getD, List.getElem?_cons_zero, List.getElem?_cons_succ, Option.getD_some, List.flatMap_cons, List.flatMap_nil, List.length_append, List.length_nil]
    omega
theorem byt_recB {n : Int} {r : Rc} (h : chkR n r = 0) : Byt (recB r) := by
  obtain ⟨-, hk, -, -⟩ := chkR_zero h
  have hfit := fit_of_chk h
  obtain ⟨j, hj, hj6⟩ := kindR_nat hk
  have er : rowR r.kind = rowL.getD j [] := by rw [hj]; rfl
  intro z hz
  unfold recB at hz
  rcases List.mem_cons.1 hz with rfl | hz
  · omega
  · obtain ⟨x, hx, hz⟩ := List.mem_flatMap.1 hz
    have hf := hfit x hx
    rw [er] at hx
    rcases row_ltr hj6 hx with rfl | rfl | rfl | rfl | rfl | rfl | rfl | rfl
    · exact byt_enc _ z hz
    · exact byt_enc _ z hz
    · exact byt_enc _ z hz
    · exact byt_enc _ z hz
    · have : z = if r.same then 1 else 0 := List.mem_singleton.1 hz
      rw [this]
      split <;> omega
    · have hc : chk 2 r.c = 0 := hf
      exact byt_encC (sound_of hc).k0 (sound_of hc).k8 z hz
    · have hz : z ∈ (if noopR r then [] else enc r.seq.toNat) := hz
      split at hz
      · exact absurd hz List.not_mem_nil
      · exact byt_enc _ z hz
    · have hz : z ∈ (if noopR r then [] else packL 2 r.deps) := hz
      have hv : isVec r.deps = true := hf
      split at hz
      · exact absurd hz List.not_mem_nil
      · rw [← packR_vec (.inr rfl) hv] at hz
        exact byt_packR _ _ z hz
end Go.Proofs.YtnjihfbghaefoaaGreatDoor
