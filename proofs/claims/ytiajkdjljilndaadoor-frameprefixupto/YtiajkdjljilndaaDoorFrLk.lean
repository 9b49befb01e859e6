/- What bytes are from a frame's first on: more bytes behind change nothing; frames; what Feed comes to; the draining of bytes, as mathematics. -/
import Derived.Test.YtiajkdjljilndaaDoorFrFeed
import Derived.Test.YtiajkdjljilndaaDoorFrSeal
namespace Go.Proofs.YtiajkdjljilndaaDoor
open Go.RowKit Go.Wire1 Go.Crc2 Go.Frm

theorem len3_take {t : List Int} {n k : Nat} (h : len3 t = .ok n k) : len3 (t.take k) = .ok n k ∧ k ≤ t.length ∧ 1 ≤ k := by
  match t with
  | [] => simp [len3] at h
  | a :: r =>
    by_cases h1 : a < 128
    · simp [len3, h1] at h
      obtain ⟨rfl, rfl⟩ := h
      simp [len3, h1]
    · match r with
      | [] => simp [len3, h1] at h
      | b :: r =>
        by_cases h2 : b = 0
        · simp [len3, h1, h2] at h
        · by_cases h3 : b < 128
          · simp [len3, h1, h2, h3] at h
            obtain ⟨rfl, rfl⟩ := h
            simp [len3, h1, h2, h3]
          · match r with
            | [] => simp [len3, h1, h2, h3] at h
            | c :: r =>
              by_cases h4 : c = 0
              · simp [len3, h1, h2, h3, h4] at h
              · by_cases h5 : 128 ≤ c ∨ 1048576 < a.toNat % 128 + 128 * (b.toNat % 128) + 16384 * c.toNat
                · simp [len3, h1, h2, h3, h4, h5] at h
                · simp [len3, h1, h2, h3, h4, h5] at h
                  obtain ⟨rfl, rfl⟩ := h
                  simp [len3, h1, h2, h3, h4, h5]

theorem ok_split {v n k : Nat} {t : List Int} (h : len3 t = .ok n k) : ∃ hd r, Hd v n hd ∧ [77, 84, (v : Int)] ++ t = hd ++ r ∧ hd.length = 3 + k := by
  obtain ⟨h1, h2, h3⟩ := len3_take h
  refine ⟨[77, 84, (v : Int)] ++ t.take k, t.drop k, ⟨t.take k, rfl, by rw [h1, List.length_take, Nat.min_eq_left h2]⟩, by rw [List.append_assoc, List.take_append_drop], ?_⟩
  simp only [List.length_append, List.length_cons, List.length_nil, List.length_take]; omega

theorem lookS_mono (f t : Nat) (S c b : List Int) (i : Nat) (h : lookS f t S c i ≠ .short) : lookS f t S (c ++ b) i = lookS f t S c i := by
  rcases lookS_cases f t S c i with ⟨h1, _⟩ | ⟨h1, r, rfl⟩ | ⟨d, x, r, rfl, h2, h3, h4, h5⟩
  · exact absurd h1 h
  · rw [h1, List.append_assoc]; exact lookS_whole f t S (r ++ b) i
  · rw [h5, List.append_assoc, List.cons_append]; exact lookS_bad f t S d x (r ++ b) i h2 h3 h4

theorem look_mono {v : Nat} {a : List Int} (b : List Int) (h : Frm.look v a ≠ .short) : Frm.look v (a ++ b) = Frm.look v a := by
  rcases look_cases v a with ⟨h1, _⟩ | ⟨x, r, rfl, hx, h1⟩ | ⟨x, r, rfl, hx, h1⟩ | ⟨x, r, rfl, hx, h1⟩ | ⟨t, k, e, rfl, ht, h1⟩ | ⟨n, k, t, rfl, ht⟩
  · exact absurd h1 h
  · rw [h1]; simp [Frm.look, hx]
  · rw [h1]; simp [Frm.look, hx]
  · rw [h1]; simp [Frm.look, hx]
  · rw [h1, List.append_assoc]; exact look_bad3 (by rw [len3_app b (by rw [ht]; simp)]; exact ht)
  · obtain ⟨hd, r, H, e, _⟩ := ok_split (v := v) ht
    rw [e] at h ⊢
    have hl : hd.length + n ≤ (hd ++ r).length := by
      apply Classical.byContradiction
      intro q
      apply h
      rw [look_hd H, List.drop_eq_nil_of_le (by omega)]
      exact lookS_short _ _ _ _ _ (by simp) (by simp [fb_len])
    rw [List.append_assoc, look_hd H, look_hd H, ← List.append_assoc, List.take_append_of_le_length hl, List.drop_append_of_le_length hl]
    refine lookS_mono _ _ _ _ _ _ ?_
    rw [← look_hd H]
    exact h

/-- What Feed comes to, by what the bytes are. -/
theorem fed_look {w w' : World} {b v pl : Nat} {h l : List Int} {pv : Value} {E0 k : Nat} {s1 : Sm} {pv1 : Value} (F : Fd w w' b v pl h l pv E0 k s1 pv1) (hk : k = l.length ∨ s1.part = 5 ∨ s1.part = 6) :
    (Frm.look v (h ++ l) = .short ∧ k = l.length ∧ Liv v pl (h ++ l) s1) ∨
    (∃ f t, Frm.look v (h ++ l) = .whole f t ∧ h.length + k = t + 4 ∧ Wai v pl ((h ++ l).take (t + 4)) s1 ∧ ((h ++ l).take t).drop f = s1.pay ∧ f ≤ t) ∨
    (∃ e, Frm.look v (h ++ l) = .bad (h.length + k) e ∧ s1 = brk pl e ∧ 0 < e ∧ e < 100) := by
  have hkl := F.le
  have e0 : h ++ l = (h ++ l.take k) ++ l.drop k := by rw [List.append_assoc, List.take_append_drop]
  have el : (h ++ l.take k).length = h.length + k := by rw [List.length_append, List.length_take, Nat.min_eq_left hkl]
  rcases F.came with L | W | ⟨e, hs, h0, h1, h2⟩
  · have hp := live_part L
    have hkk : k = l.length := by omega
    have et : l.take k = l := List.take_of_length_le (by omega)
    rw [et] at L
    exact .inl ⟨L.short, hkk, L⟩
  · obtain ⟨f, t, h1, h2, h3, h4⟩ := W.whole
    have hm : Frm.look v (h ++ l) = .whole f t := by rw [e0, look_mono _ (by rw [h1]; simp), h1]
    have htk : (h ++ l).take (t + 4) = h ++ l.take k := by rw [e0, List.take_append_of_le_length (by omega), List.take_of_length_le (by omega)]
    refine .inr (.inl ⟨f, t, hm, by omega, by rw [htk]; exact W, ?_, h4⟩)
    rw [← h3, e0, List.take_append_of_le_length (by omega)]
  · exact .inr (.inr ⟨e, by rw [e0, look_mono _ (by rw [h2]; simp), h2, el], hs, h0, h1⟩)

theorem hd_frm (v : Nat) (p : List Int) (hp : p.length ≤ 1048576) : Hd v p.length (hdL v p.length) := ⟨enc p.length, rfl, by have := len3_enc p.length hp []; rwa [List.append_nil] at this⟩
theorem look_frm (v : Nat) (p r : List Int) (hp : p.length ≤ 1048576) : Frm.look v (frm v p ++ r) = .whole (hdL v p.length).length ((hdL v p.length).length + p.length) := by
  have H := hd_frm v p hp
  have e : frm v p ++ r = hdL v p.length ++ (p ++ (fb (upd 0#32 (body v p)) ++ r)) := by unfold frm body; simp
  rw [e, look_hd H]
  have e1 : (hdL v p.length ++ (p ++ (fb (upd 0#32 (body v p)) ++ r))).drop ((hdL v p.length).length + p.length) = fb (upd 0#32 (body v p)) ++ r := by rw [← List.append_assoc]; exact List.drop_left' (by simp)
  have e2 : (hdL v p.length ++ (p ++ (fb (upd 0#32 (body v p)) ++ r))).take ((hdL v p.length).length + p.length) = body v p := by rw [← List.append_assoc]; exact List.take_left' (by simp)
  rw [e1, e2]
  exact lookS_whole _ _ _ _ _
theorem frm_len (v : Nat) (p : List Int) : (frm v p).length = (hdL v p.length).length + p.length + 4 := by unfold frm body; simp [fb_len]; omega
theorem frm_pay (v : Nat) (p r : List Int) : ((frm v p ++ r).take ((hdL v p.length).length + p.length)).drop (hdL v p.length).length = p := by
  have e : frm v p ++ r = (hdL v p.length ++ p) ++ (fb (upd 0#32 (body v p)) ++ r) := by unfold frm body; simp
  rw [e, List.take_left' (by simp)]
  exact List.drop_left
/-- A whole frame is the frame of its payload. -/
theorem whole_frm {v : Nat} {l : List Int} {f t : Nat} (hy : Byt l) (h : Frm.look v l = .whole f t) : ((l.take t).drop f).length ≤ 1048576 ∧ l.take (t + 4) = frm v ((l.take t).drop f) ∧ t + 4 ≤ l.length ∧ f ≤ t := by
  rcases look_cases v l with ⟨h1, _⟩ | ⟨x, r, rfl, hx, h1⟩ | ⟨x, r, rfl, hx, h1⟩ | ⟨x, r, rfl, hx, h1⟩ | ⟨t', k, e, rfl, ht, h1⟩ | ⟨n, k, t', rfl, ht⟩
  · rw [h1] at h; cases h
  · rw [h1] at h; cases h
  · rw [h1] at h; cases h
  · rw [h1] at h; cases h
  · rw [h1] at h; cases h
  · obtain ⟨hd, r, H, e, _⟩ := ok_split (v := v) ht
    rw [e] at h hy ⊢
    have hb := hd_byt_len H (fun z hz => hy z (List.mem_append_left _ hz))
    rw [look_hd H] at h
    rcases lookS_cases hd.length (hd.length + n) (fb (upd 0#32 ((hd ++ r).take (hd.length + n)))) ((hd ++ r).drop (hd.length + n)) 0 with ⟨h1, _⟩ | ⟨h1, q, h2⟩ | ⟨d, x, q, h2, _, _, _, h5⟩
    · rw [h1] at h; cases h
    · rw [h1] at h
      simp only [Lk.whole.injEq] at h
      obtain ⟨rfl, rfl⟩ := h
      have hl : hd.length + n + 4 ≤ (hd ++ r).length := by
        have := congrArg List.length h2
        simp only [List.length_drop, List.length_append, fb_len] at this ⊢
        omega
      have hr : n ≤ r.length := by simp only [List.length_append] at hl; omega
      have ep : ((hd ++ r).take (hd.length + n)).drop hd.length = r.take n := by
        rw [List.take_append, List.take_of_length_le (by omega), show hd.length + n - hd.length = n by omega]
        exact List.drop_left
      have epl : (r.take n).length = n := by rw [List.length_take]; omega
      have eb : body v (r.take n) = (hd ++ r).take (hd.length + n) := by
        unfold body hdL
        rw [epl, ← hb.2.2.2, List.take_append, List.take_of_length_le (by omega : hd.length ≤ hd.length + n), show hd.length + n - hd.length = n by omega]
      rw [ep]
      refine ⟨by omega, ?_, hl, by omega⟩
      unfold frm
      rw [eb, List.take_add, h2]
      rfl
    · rw [h5] at h; cases h

/-- The draining of bytes: payloads, place, error. -/
def drainF : Nat → Nat → List Int → List (List Int) × Nat × Nat
  | 0, _, _ => ([], 0, 0)
  | f + 1, v, l => match l with
    | [] => ([], 0, 0)
    | _ :: _ => match Frm.look v l with
      | .short => ([], 0, 11)
      | .bad _ e => ([], 0, e)
      | .whole a t => (((l.take t).drop a) :: (drainF f v (l.drop (t + 4))).1, t + 4 + (drainF f v (l.drop (t + 4))).2.1, (drainF f v (l.drop (t + 4))).2.2)
end Go.Proofs.YtiajkdjljilndaaDoor
