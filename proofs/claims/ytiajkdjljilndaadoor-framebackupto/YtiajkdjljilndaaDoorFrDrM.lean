/- The draining of bytes as mathematics: frames one behind the other, a stream between two chunks, what is told at the end. -/
import Derived.Test.YtiajkdjljilndaaDoorFrLk
import Derived.Test.YtiajkdjljilndaaDoorFrTk
namespace Go.Proofs.YtiajkdjljilndaaDoor
open Go.RowKit Go.Wire1 Go.Crc2 Go.Frm

/-- Frames one behind the other. -/
def joinF (v : Nat) : List (List Int) → List Int
  | [] => []
  | p :: ps => frm v p ++ joinF v ps
theorem joinF_snoc (v : Nat) (ps : List (List Int)) (p : List Int) : joinF v (ps ++ [p]) = joinF v ps ++ frm v p := by
  induction ps with
  | nil => simp [joinF]
  | cons q r ih => simp [joinF, ih]
theorem hdL_four (v n : Nat) : 4 ≤ (hdL v n).length := by
  unfold hdL
  have : 0 < (enc n).length := by show 0 < (encF 10 n).length; unfold encF; split <;> simp
  simp; omega
theorem frm_long (v : Nat) (p : List Int) : p.length + 8 ≤ (frm v p).length := by
  rw [frm_len]
  have := hdL_four v p.length
  omega
theorem joinF_long (v : Nat) (ps : List (List Int)) : 8 * ps.length ≤ (joinF v ps).length := by
  induction ps with
  | nil => simp [joinF]
  | cons p r ih =>
    have := frm_long v p
    simp only [joinF, List.length_append, List.length_cons]; omega
/-- A stream that is not waiting, behind the bytes Y, of which the payloads ps were taken. -/
structure Dr (v : Nat) (Y : List Int) (ps : List (List Int)) (s : Sm) : Prop where
  pays : ∀ p ∈ ps, p.length ≤ 1048576
  byt : Byt Y
  which : (∃ h, Y = joinF v ps ++ h ∧ Liv v (joinF v ps).length h s) ∨ (∃ e h1 h2, Y = joinF v ps ++ (h1 ++ h2) ∧ s = brk (joinF v ps).length e ∧ 0 < e ∧ e < 100 ∧ Frm.look v h1 = .bad h1.length e)
theorem Dr.fresh (v : Nat) : Dr v [] [] (fresh v 0) := ⟨(fun p hp => by cases hp), (fun z hz => by cases hz), .inl ⟨[], rfl, liv_fresh v 0⟩⟩
theorem Dr.part {v : Nat} {Y : List Int} {ps : List (List Int)} {s : Sm} (h : Dr v Y ps s) : s.part ≠ 5 := by
  rcases h.which with ⟨h, _, L⟩ | ⟨e, h1, h2, _, rfl, _⟩
  · have := live_part L; omega
  · show (6 : Nat) ≠ 5; decide
/-- More bytes behind a broken stream. -/
theorem Dr.more {v : Nat} {Y : List Int} {ps : List (List Int)} {s : Sm} (h : Dr v Y ps s) (hp : s.part = 6) (X : List Int) (hX : Byt X) : Dr v (Y ++ X) ps s := by
  refine ⟨h.pays, byt_app h.byt hX, ?_⟩
  rcases h.which with ⟨h, _, L⟩ | ⟨e, h1, h2, hY, hs, h3⟩
  · have := live_part L; omega
  · exact .inr ⟨e, h1, h2 ++ X, by rw [hY]; simp, hs, h3⟩
/-- What a stream has come to behind k bytes of X. -/
structure FedD (v : Nat) (Y : List Int) (ps : List (List Int)) (s1 : Sm) (X : List Int) (k : Nat) : Prop where
  le : k ≤ X.length
  zero : k = 0 → Dr v (Y ++ X) ps s1
  pos : 0 < k → (s1.part ≠ 5 ∧ Dr v (Y ++ X.take k) ps s1) ∨ (s1.part = 5 ∧ s1.pay.length ≤ 1048576 ∧ s1.v = v ∧ s1.place + s1.held = (joinF v (ps ++ [s1.pay])).length ∧ Dr v (Y ++ X.take k) (ps ++ [s1.pay]) (Frm.fresh v (joinF v (ps ++ [s1.pay])).length))
theorem fedD_live {w w' : World} {b v : Nat} {Y h X : List Int} {ps : List (List Int)} {s s1 : Sm} {pv pv1 : Value} {E0 k : Nat} (hp : ∀ p ∈ ps, p.length ≤ 1048576) (hY : Y = joinF v ps ++ h) (byY : Byt Y) (byX : Byt X) (L : Liv v (joinF v ps).length h s) (_S : Str w b s pv E0)
    (F : Fd w w' b v (joinF v ps).length h X pv E0 k s1 pv1) (hk : k = X.length ∨ s1.part = 5 ∨ s1.part = 6) (hpos : 0 < X.length → 0 < k) : FedD v Y ps s1 X k := by
  have hle := F.le
  have byk : Byt (Y ++ X.take k) := byt_app byY (fun z hz => byX z (List.mem_of_mem_take hz))
  have byh : Byt (h ++ X) := byt_app (fun z hz => byY z (by rw [hY]; exact List.mem_append_right _ hz)) byX
  refine ⟨hle, fun h0 => ?_, fun h0 => ?_⟩
  · subst h0
    have hX : X = [] := List.length_eq_zero_iff.1 (by omega)
    subst hX
    rcases fed_look F hk with ⟨h1, h2, h3⟩ | ⟨f, t, h1, h2, h3, h4, h5⟩ | ⟨e, h1, h2, h3, h4⟩
    · rw [List.append_nil] at h3 ⊢
      exact ⟨hp, byY, .inl ⟨h, hY, h3⟩⟩
    · rw [List.append_nil, L.short] at h1; cases h1
    · rw [List.append_nil, L.short] at h1; cases h1
  · rcases fed_look F hk with ⟨h1, h2, h3⟩ | ⟨f, t, h1, h2, h3, h4, h5⟩ | ⟨e, h1, h2, h3, h4⟩
    · refine .inl ⟨by have := live_part h3; omega, hp, byk, .inl ⟨h ++ X, ?_, h3⟩⟩
      rw [h2, List.take_length, hY, List.append_assoc]
    · have hw := whole_frm byh h1
      rw [h4] at hw
      have he : h ++ X.take k = frm v s1.pay := by
        rw [← hw.2.1, List.take_append, List.take_of_length_le (by omega : h.length ≤ t + 4), show t + 4 - h.length = k by omega]
      have hl : (joinF v ps).length + (t + 4) = (joinF v (ps ++ [s1.pay])).length := by
        rw [joinF_snoc, List.length_append, ← he, List.length_append, List.length_take]; omega
      refine .inr ⟨h3.part, hw.1, h3.ver, ?_, ?_, byk, .inl ⟨[], ?_, liv_fresh _ _⟩⟩
      · rw [h3.place, h3.held, List.length_take, ← hl]
        have := hw.2.2.1
        omega
      · intro p hq
        rcases List.mem_append.1 hq with h6 | h6
        · exact hp p h6
        · simp only [List.mem_singleton] at h6; subst h6; exact hw.1
      · rw [List.append_nil, joinF_snoc, hY, List.append_assoc, he]
    · refine .inl ⟨by rw [h2]; show (6 : Nat) ≠ 5; decide, hp, byk, .inr ⟨e, h ++ X.take k, [], ?_, h2, h3, h4, ?_⟩⟩
      · rw [List.append_nil, hY, List.append_assoc]
      · have hc := F.came
        rcases hc with c | c | ⟨e', c1, _, _, c4⟩
        · have := live_part c; rw [h2] at this; simp [brk] at this
        · have := c.part; rw [h2] at this; simp [brk] at this
        · rw [h2] at c1
          have : e = e' := by have := congrArg Sm.fault c1; simpa [brk] using this
          rw [this]; exact c4

theorem drainF_frm (v : Nat) (p r : List Int) (hp : p.length ≤ 1048576) (f : Nat) : drainF (f + 1) v (frm v p ++ r) = (p :: (drainF f v r).1, (frm v p).length + (drainF f v r).2.1, (drainF f v r).2.2) := by
  have h1 := look_frm v p r hp
  have h2 := frm_pay v p r
  have h3 : (frm v p ++ r).drop ((hdL v p.length).length + p.length + 4) = r := List.drop_left' (frm_len v p)
  obtain ⟨x, xs, hx⟩ : ∃ x xs, frm v p ++ r = x :: xs := ⟨77, _, rfl⟩
  have e : drainF (f + 1) v (frm v p ++ r) = match Frm.look v (frm v p ++ r) with
      | .short => ([], 0, 11)
      | .bad _ e => ([], 0, e)
      | .whole a t => ((((frm v p ++ r).take t).drop a) :: (drainF f v ((frm v p ++ r).drop (t + 4))).1, t + 4 + (drainF f v ((frm v p ++ r).drop (t + 4))).2.1, (drainF f v ((frm v p ++ r).drop (t + 4))).2.2) := by
    rw [hx]; rfl
  rw [e, h1]
  simp only [h2, h3, frm_len]
theorem drainF_join (v : Nat) (h : List Int) : ∀ (ps : List (List Int)) (f : Nat), (∀ p ∈ ps, p.length ≤ 1048576) → drainF (ps.length + f) v (joinF v ps ++ h) = (ps ++ (drainF f v h).1, (joinF v ps).length + (drainF f v h).2.1, (drainF f v h).2.2)
  | [], f, _ => by simp [joinF]
  | p :: ps, f, hp => by
    have ih := drainF_join v h ps f (fun q hq => hp q (by simp [hq]))
    rw [show (p :: ps).length + f = (ps.length + f) + 1 by simp; omega, joinF, List.append_assoc, drainF_frm v p _ (hp p (by simp)), ih]
    simp only [List.cons_append, List.length_append, Nat.add_assoc]
/-- What is told at the end. -/
theorem Dr.drained {v : Nat} {Y : List Int} {ps : List (List Int)} {s : Sm} (h : Dr v Y ps s) : drainF (Y.length + 1) v Y = (ps, s.place, if 0 < s.held then 11 else s.fault) ∧ s.place = (joinF v ps).length := by
  have hl := joinF_long v ps
  rcases h.which with ⟨x, hY, L⟩ | ⟨e, h1, h2, hY, hs, h3, h4, h5⟩
  · have e1 : Y.length + 1 = ps.length + (Y.length - ps.length + 1) := by rw [hY, List.length_append]; omega
    rw [e1, hY, drainF_join v x ps _ h.pays, L.place, L.held, L.fault]
    refine ⟨?_, rfl⟩
    cases hx : x with
    | nil => simp [drainF]
    | cons a r =>
      have := L.short
      rw [hx] at this
      simp [drainF, this]
  · have e1 : Y.length + 1 = ps.length + (Y.length - ps.length + 1) := by rw [hY, List.length_append]; omega
    have hb : Frm.look v (h1 ++ h2) = .bad h1.length e := by rw [look_mono _ (by rw [h5]; simp), h5]
    rw [e1, hY, drainF_join v _ ps _ h.pays, hs]
    refine ⟨?_, rfl⟩
    cases hx : h1 ++ h2 with
    | nil => rw [hx] at hb; simp [Frm.look] at hb
    | cons a r =>
      rw [hx] at hb
      simp [drainF, hb, brk]
end Go.Proofs.YtiajkdjljilndaaDoor
