/- The contracts of shape (every input), msgOf, callFault, layoutOf and Decode. -/
import Derived.Test.YtooejihnifphkaaGreatDoorMMath
import Derived.Test.YtooejihnifphkaaGreatDoorMShape
import Derived.Test.YtooejihnifphkaaGreatDoorMNack
import Derived.Test.YtooejihnifphkaaGreatDoorMMsgOf2
namespace Go.Proofs.YtooejihnifphkaaGreatDoor
open Go.RowKit Go.Wire1

section
variable (w0 : World) (g : Nat) (v n : Int) (l : List Int)
theorem shape_any (a : Nat → Addr) (f : Int) (w : World) (he : Errs w0 a) (hKc : Knd w0) (hK : Kmd w0) (h : Scx w0 w g (Vf v n) l f) :
    Calls Tryz.prog 25 #[.pointer (some ⟨g, 0, none⟩)] w fun r w' => ShPost w0 w g v n (rdMsg v n l f) r w' := by
  obtain ⟨⟨k, row, num⟩, l1, f1, e1⟩ : ∃ b l1 f1, iHead v n l f = (b, l1, f1) := ⟨_, _, _, rfl⟩
  by_cases h1 : k = 1
  · subst h1
    obtain ⟨⟨x, y⟩, l2, f2, e2⟩ : ∃ b l2 f2, iBalF v n 1 row l1 f1 = (b, l2, f2) := ⟨_, _, _, rfl⟩
    obtain ⟨⟨c, sq, dl⟩, l3, f3, e3⟩ : ∃ b l3 f3, iLoad v n false l2 f2 = (b, l3, f3) := ⟨_, _, _, rfl⟩
    have eR : rdMsg v n l f = (⟨1, row, num, x, y, 0, 0, 0, false, c, sq, dl⟩, l3, f3) := by unfold rdMsg; simp only [e1, e2, e3, if_true]
    rw [eR]
    exact (shape_prop1 w0 g v n l a f w row num l1 f1 x y l2 f2 c sq dl l3 f3 he hKc hK h e1 e2 e3).mono fun r w' ⟨u, e, D, T, S⟩ => ⟨u, e, D, T, S⟩
  by_cases h3 : k = 3
  · subst h3
    obtain ⟨⟨x, y⟩, l2, f2, e2⟩ : ∃ b l2 f2, iBalF v n 3 row l1 f1 = (b, l2, f2) := ⟨_, _, _, rfl⟩
    obtain ⟨⟨c, sq, dl⟩, l3, f3, e3⟩ : ∃ b l3 f3, iLoad v n true l2 f2 = (b, l3, f3) := ⟨_, _, _, rfl⟩
    have eR : rdMsg v n l f = (⟨3, row, num, x, y, 0, 0, 0, false, c, sq, dl⟩, l3, f3) := by unfold rdMsg; simp only [e1, e2, e3, if_true, if_neg h1]
    rw [eR]
    exact (shape_prop3 w0 g v n l a f w row num l1 f1 x y l2 f2 c sq dl l3 f3 he hKc hK h e1 e2 e3).mono fun r w' ⟨u, e, D, T, S⟩ => ⟨u, e, D, T, S⟩
  by_cases h2 : k = 2
  · subst h2
    obtain ⟨⟨x, y⟩, l2, f2, e2⟩ : ∃ b l2 f2, iBalF v n 2 row l1 f1 = (b, l2, f2) := ⟨_, _, _, rfl⟩
    obtain ⟨⟨sq, dl⟩, l3, f3, e3⟩ : ∃ b l3 f3, iAttr v n false l2 f2 = (b, l3, f3) := ⟨_, _, _, rfl⟩
    have eR : rdMsg v n l f = (⟨2, row, num, x, y, 0, 0, 0, false, zeroC, sq, dl⟩, l3, f3) := by unfold rdMsg; simp only [e1, e2, e3, if_true, if_neg h1, if_neg h3]
    rw [eR]
    exact (shape_est w0 g v n l a f w row num l1 f1 x y l2 f2 sq dl l3 f3 he hKc hK h e1 e2 e3).mono fun r w' ⟨u, e, D, T, S⟩ => ⟨u, e, D, T, S⟩
  by_cases h4 : k = 4
  · subst h4
    obtain ⟨⟨x, y⟩, l2, f2, e2⟩ : ∃ b l2 f2, iBalF v n 4 row l1 f1 = (b, l2, f2) := ⟨_, _, _, rfl⟩
    have eR : rdMsg v n l f = (⟨4, row, num, x, y, 0, 0, 0, false, zeroC, 0, []⟩, l2, f2) := by unfold rdMsg; simp only [e1, e2, if_true, if_neg h1, if_neg h3, if_neg h2]
    rw [eR]
    exact (shape_bal4 w0 g v n l a f w row num l1 f1 x y l2 f2 he hKc hK h e1 e2).mono fun r w' ⟨u, e, D, T, S⟩ => ⟨u, e, D, T, S⟩
  by_cases h6 : k = 6
  · subst h6
    obtain ⟨⟨x, y⟩, l2, f2, e2⟩ : ∃ b l2 f2, iBalF v n 6 row l1 f1 = (b, l2, f2) := ⟨_, _, _, rfl⟩
    have eR : rdMsg v n l f = (⟨6, row, num, x, y, 0, 0, 0, false, zeroC, 0, []⟩, l2, f2) := by unfold rdMsg; simp only [e1, e2, if_true, if_neg h1, if_neg h3, if_neg h2, if_neg h4]
    rw [eR]
    exact (shape_bal6 w0 g v n l a f w row num l1 f1 x y l2 f2 he hKc hK h e1 e2).mono fun r w' ⟨u, e, D, T, S⟩ => ⟨u, e, D, T, S⟩
  by_cases h5 : k = 5
  · subst h5
    obtain ⟨⟨c, sq, dl⟩, l2, f2, e2⟩ : ∃ b l2 f2, iLoad v n true l1 f1 = (b, l2, f2) := ⟨_, _, _, rfl⟩
    have eR : rdMsg v n l f = (⟨5, row, num, 0, 0, 0, 0, 0, false, c, sq, dl⟩, l2, f2) := by unfold rdMsg; simp only [e1, e2, if_true, if_neg h1, if_neg h3, if_neg h2, if_neg h4, if_neg h6]
    rw [eR]
    exact (shape_com w0 g v n l a f w row num l1 f1 c sq dl l2 f2 he hKc hK h e1 e2).mono fun r w' ⟨u, e, D, T, S⟩ => ⟨u, e, D, T, S⟩
  by_cases h7 : k = 7
  · subst h7
    have eR : rdMsg v n l f = rdTold v n row num l1 f1 := by unfold rdMsg; simp only [e1, if_true, if_neg h1, if_neg h3, if_neg h2, if_neg h4, if_neg h6, if_neg h5]
    rw [eR]
    exact shape_told w0 g v n l a f w row num l1 f1 he hKc hK h e1
  by_cases h8 : k = 8
  · subst h8
    obtain ⟨⟨x, y⟩, l2, f2, e2⟩ : ∃ b l2 f2, iBalF v n 8 row l1 f1 = (b, l2, f2) := ⟨_, _, _, rfl⟩
    obtain ⟨⟨p, q⟩, l3, f3, e3⟩ : ∃ b l3 f3, iBal v l2 f2 = (b, l3, f3) := ⟨_, _, _, rfl⟩
    have eR : rdMsg v n l f = (⟨8, row, num, x, y, p, q, 0, false, zeroC, 0, []⟩, l3, refF (unl (nackB n row x y p q) 54) f3) := by unfold rdMsg; simp only [e1, e2, e3, if_true, if_neg h1, if_neg h3, if_neg h2, if_neg h4, if_neg h6, if_neg h5, if_neg h7]
    rw [eR]
    by_cases hv : v = 1
    · have e4 : iTwo l2 f2 = ((p, q), l3, f3) := by have := e3; unfold iBal at this; rwa [if_pos hv] at this
      exact (shape_nack1 w0 g v n l a f w row num l1 f1 hv x y l2 f2 p q l3 f3 _ _ he hKc hK h e1 e2 e4 rfl rfl).mono fun r w' ⟨u, e, D, T, S⟩ => ⟨u, e, D, T, S⟩
    · have e4 : iPack l2 f2 = ((p, q), l3, f3) := by have := e3; unfold iBal at this; rwa [if_neg hv] at this
      exact (shape_nack2 w0 g v n l a f w row num l1 f1 hv x y l2 f2 p q l3 f3 _ _ he hKc hK h e1 e2 e4 rfl rfl).mono fun r w' ⟨u, e, D, T, S⟩ => ⟨u, e, D, T, S⟩
  · have eR : rdMsg v n l f = (⟨k, row, num, 0, 0, 0, 0, 0, false, zeroC, 0, []⟩, l1, f1) := by unfold rdMsg; simp only [e1, if_neg h1, if_neg h3, if_neg h2, if_neg h4, if_neg h6, if_neg h5, if_neg h7, if_neg h8]
    have hk0 : shK ⟨k, row, num, 0, 0, 0, 0, 0, false, zeroC, 0, []⟩ = 0 := by unfold shK; simp [h1, h2, h3, h4, h5, h6, h7, h8]
    rw [eR]
    refine (shape_bare w0 g v n l a f w k row num l1 f1 he hK h e1 (by omega)).mono fun r w' ⟨u, e, D, T, S⟩ => ⟨u, ?_, D, T, S⟩
    rw [e]
    unfold shV
    rw [hk0]
    rfl
end

/-- What is read has just its shape's fields. -/
theorem only_rd (v n : Int) (l : List Int) (f : Int) : only (rdMsg v n l f).1 (shK (rdMsg v n l f).1) = (rdMsg v n l f).1 := by
  obtain ⟨⟨k, row, num⟩, l1, f1, e1⟩ : ∃ b l1 f1, iHead v n l f = (b, l1, f1) := ⟨_, _, _, rfl⟩
  unfold rdMsg
  simp only [e1]
  by_cases h1 : k = 1
  · simp only [if_pos h1]; rfl
  by_cases h3 : k = 3
  · simp only [if_neg h1, if_pos h3]; rfl
  by_cases h2 : k = 2
  · simp only [if_neg h1, if_neg h3, if_pos h2]; rfl
  by_cases h4 : k = 4
  · simp only [if_neg h1, if_neg h3, if_neg h2, if_pos h4]; rfl
  by_cases h6 : k = 6
  · simp only [if_neg h1, if_neg h3, if_neg h2, if_neg h4, if_pos h6]; rfl
  by_cases h5 : k = 5
  · simp only [if_neg h1, if_neg h3, if_neg h2, if_neg h4, if_neg h6, if_pos h5]; rfl
  by_cases h7 : k = 7
  · simp only [if_neg h1, if_neg h3, if_neg h2, if_neg h4, if_neg h6, if_neg h5, if_pos h7]
    obtain ⟨⟨x, y⟩, l2, f2, e2⟩ : ∃ b l2 f2, iBalF v n 7 row l1 f1 = (b, l2, f2) := ⟨_, _, _, rfl⟩
    obtain ⟨⟨st, sm⟩, l3, f3, e3⟩ : ∃ b l3 f3, iVote v l2 f2 = (b, l3, f3) := ⟨_, _, _, rfl⟩
    by_cases hs : st = 0
    · unfold rdTold
      simp only [e2, e3, if_pos hs]; rfl
    · unfold rdTold
      simp only [e2, e3, if_neg hs]
      unfold shK
      simp [hs, only]
  by_cases h8 : k = 8
  · simp only [if_neg h1, if_neg h3, if_neg h2, if_neg h4, if_neg h6, if_neg h5, if_neg h7, if_pos h8]; rfl
  · simp only [if_neg h1, if_neg h3, if_neg h2, if_neg h4, if_neg h6, if_neg h5, if_neg h7, if_neg h8]
    unfold shK
    simp [h1, h2, h3, h4, h5, h6, h7, h8, only]

theorem shK_le (m : Ms) : shK m ≤ 7 := by
  unfold shK
  repeat' split
  all_goals omega
/-- msgOf gives the shape's fields back. -/
theorem msgOf_any (m : Ms) (u : Value) (hu : hasD (shK m) = true → ∃ a k c, u = .slice a k c) (w : World) :
    Calls Tryz.prog 27 #[shV m u] w fun r w' => r = .returned (.agg (mgc (only m (shK m)) (onlyU u (shK m))).toArray) ∧ Below w.heap.size w w' := by
  unfold shV
  have h7 := shK_le m
  generalize shK m = k at *
  match k, h7, hu with
  | 0, _, _ => exact msgOf_bare m.kind m.row m.num w
  | 1, _, hu =>
    obtain ⟨a, i, c, rfl⟩ := hu rfl
    exact msgOf_proposal m.kind m.row m.num m.x m.y m.c m.sq a i c w
  | 2, _, hu =>
    obtain ⟨a, i, c, rfl⟩ := hu rfl
    exact msgOf_estimate m.kind m.row m.num m.x m.y m.sq a i c w
  | 3, _, _ => exact msgOf_balloted m.kind m.row m.num m.x m.y w
  | 4, _, hu =>
    obtain ⟨a, i, c, rfl⟩ := hu rfl
    exact msgOf_commit m.kind m.row m.num m.c m.sq a i c w
  | 5, _, _ => exact msgOf_noVote m.kind m.row m.num m.x m.y w
  | 6, _, hu =>
    obtain ⟨a, i, c, rfl⟩ := hu rfl
    exact msgOf_vote m.kind m.row m.num m.x m.y m.st m.sm m.p m.q m.c m.sq a i c w
  | 7, _, _ => exact msgOf_nack m.kind m.row m.num m.x m.y m.p m.q w
  | k + 8, h7, _ => omega
end Go.Proofs.YtooejihnifphkaaGreatDoor
