/- Texts of the proof, joined. -/
import Derived.Test.YtnjihfbghaefoaaGreatDoorJ01
import Derived.Test.YtnjihfbghaefoaaGreatDoorJ34
/- The plain mathematics of frames: what a beginning of a frame is (short, amiss, whole), a stream's fields, what a stream does with a byte; nothing of the program is named here. -/
namespace Go.Frm
open Go.RowKit Go.Wire1 Go.Crc2

inductive Ln where
  | short
  | bad (k e : Nat)
  | ok (n k : Nat)
inductive Lk where
  | short
  | bad (k e : Nat)
  | whole (f t : Nat)

/-- A length at the beginning of bytes. -/
def len3 : List Int → Ln
  | [] => .short
  | a :: r => if a < 128 then .ok a.toNat 1 else
    match r with
    | [] => .short
    | b :: r => if b = 0 then .bad 2 13 else if b < 128 then .ok (a.toNat % 128 + 128 * b.toNat) 2 else
      match r with
      | [] => .short
      | c :: _ => if c = 0 then .bad 3 13 else
        if 128 ≤ c ∨ 1048576 < a.toNat % 128 + 128 * (b.toNat % 128) + 16384 * c.toNat then .bad 3 73 else .ok (a.toNat % 128 + 128 * (b.toNat % 128) + 16384 * c.toNat) 3

/-- The sum's bytes, one by one. -/
def lookS (f t : Nat) : List Int → List Int → Nat → Lk
  | [], _, _ => .whole f t
  | _ :: _, [], _ => .short
  | s :: S, x :: r, i => if x = s then lookS f t S r (i + 1) else .bad (t + i + 1) 74

/-- What bytes are from a frame's first on. -/
def look (v : Nat) (l : List Int) : Lk :=
  match l with
  | [] => .short
  | a :: r => if a = 77 then
    match r with
    | [] => .short
    | b :: r => if b = 84 then
      match r with
      | [] => .short
      | c :: r => if c = (v : Int) then
        match len3 r with
        | .short => .short
        | .bad k e => .bad (3 + k) e
        | .ok n k => lookS (3 + k) (3 + k + n) (fb (upd 0#32 (l.take (3 + k + n)))) (l.drop (3 + k + n)) 0
        else .bad 3 72
      else .bad 2 71
    else .bad 1 71

theorem len3_app {t : List Int} (r : List Int) (h : len3 t ≠ .short) : len3 (t ++ r) = len3 t := by
  match t with
  | [] => simp [len3] at h
  | [a] =>
    by_cases h1 : a < 128
    · simp [len3, h1]
    · simp [len3, h1] at h
  | [a, b] =>
    by_cases h1 : a < 128
    · simp [len3, h1]
    · by_cases h2 : b = 0
      · simp [len3, h1, h2]
      · by_cases h3 : b < 128
        · simp [len3, h1, h2, h3]
        · simp [len3, h1, h2, h3] at h
  | a :: b :: c :: t => simp [len3]

/-- What the program's reading of a length says, byte by byte. -/
theorem dec_ln {t : List Int} (x : Int) (hy : Byt (t ++ [x])) (h : len3 t = .short) :
    t.length < 3 ∧ match dec (t ++ [x]) with
    | .ok (n, _) => if 1048576 < n then len3 (t ++ [x]) = .bad (t.length + 1) 73 else len3 (t ++ [x]) = .ok n (t.length + 1)
    | .error 0 => if t.length + 1 = 3 then len3 (t ++ [x]) = .bad (t.length + 1) 73 else len3 (t ++ [x]) = .short
    | .error 2 => len3 (t ++ [x]) = .bad (t.length + 1) 13
    | .error _ => False := by
  have hx := hy x (by simp)
  match t with
  | [] =>
    refine ⟨by simp, ?_⟩
    by_cases h1 : x < 128
    · have g1 : ¬ 128 ≤ x := by omega
      simp [dec, decF, len3, h1, g1]; omega
    · have g1 : 128 ≤ x := by omega
      simp [dec, decF, len3, h1, g1]
  | [a] =>
    have ha := hy a (by simp)
    refine ⟨by simp, ?_⟩
    by_cases h1 : a < 128
    · simp [len3, h1] at h
    · have g1 : 128 ≤ a := by omega
      by_cases h2 : x = 0
      · subst h2
        simp [dec, decF, len3, h1, g1]
      · by_cases h3 : x < 128
        · have g3 : ¬ 128 ≤ x := by omega
          have e : a.toNat % 128 = (a - 128).toNat := by omega
          have e' : ¬ 1048576 < (a - 128).toNat + 128 * x.toNat := by omega
          simp [dec, decF, len3, h1, g1, h2, h3, g3, e, e']
        · have g3 : 128 ≤ x := by omega
          simp [dec, decF, len3, h1, g1, h2, h3, g3]
  | [a, b] =>
    have ha := hy a (by simp)
    have hb := hy b (by simp)
    refine ⟨by simp, ?_⟩
    by_cases h1 : a < 128
    · simp [len3, h1] at h
    · have g1 : 128 ≤ a := by omega
      by_cases h2 : b = 0
      · simp [len3, h1, h2] at h
      · by_cases h3 : b < 128
        · simp [len3, h1, h2, h3] at h
        · have g3 : 128 ≤ b := by omega
          by_cases h4 : x = 0
          · subst h4
            simp [dec, decF, len3, h1, g1, h2, h3, g3]
          · by_cases h5 : x < 128
            · have g5 : ¬ 128 ≤ x := by omega
              have e : a.toNat % 128 + 128 * (b.toNat % 128) + 16384 * x.toNat = (a - 128).toNat + 128 * ((b - 128).toNat + 128 * x.toNat) := by omega
              simp only [List.cons_append, List.nil_append, dec, decF, len3, if_neg h1, if_pos g1, if_neg h2, if_neg h3, if_pos g3, if_neg g5, h4, false_and, if_false, e, List.length_cons, List.length_nil]
              by_cases h6 : 1048576 < (a - 128).toNat + 128 * ((b - 128).toNat + 128 * x.toNat)
              · simp [h6]
              · simp [h6, g5]
            · have g5 : 128 ≤ x := by omega
              simp [dec, decF, len3, h1, g1, h2, h3, g3, h4, g5]
  | a :: b :: c :: t =>
    exfalso
    simp only [len3] at h
    repeat' split at h
    all_goals simp at h

theorem lookS_short (f t : Nat) : ∀ (S c : List Int) (i : Nat), c = S.take c.length → c.length < S.length → lookS f t S c i = .short := by
  intro S
  induction S with
  | nil => intro c i _ h; simp at h
  | cons s S ih =>
    intro c i hc hl
    cases c with
    | nil => rfl
    | cons x r =>
      simp only [List.length_cons, List.take_succ_cons, List.cons.injEq] at hc
      simp only [List.length_cons] at hl
      rw [lookS, if_pos hc.1]
      exact ih r _ hc.2 (by omega)
theorem lookS_whole (f t : Nat) : ∀ (S r : List Int) (i : Nat), lookS f t S (S ++ r) i = .whole f t := by
  intro S
  induction S with
  | nil => intro r i; rfl
  | cons s S ih => intro r i; rw [List.cons_append, lookS, if_pos rfl]; exact ih r _
/-- A frame's head: the two bytes, the version, the length n. -/
def Hd (v n : Nat) (hd : List Int) : Prop := ∃ t, hd = [77, 84, (v : Int)] ++ t ∧ len3 t = .ok n t.length

theorem look_hd {v n : Nat} {hd : List Int} (h : Hd v n hd) (r : List Int) : look v (hd ++ r) = lookS hd.length (hd.length + n) (fb (upd 0#32 ((hd ++ r).take (hd.length + n)))) ((hd ++ r).drop (hd.length + n)) 0 := by
  obtain ⟨t, rfl, ht⟩ := h
  have e := len3_app r (by rw [ht]; simp : len3 t ≠ .short)
  have hl : ([77, 84, (v : Int)] ++ t).length = 3 + t.length := by simp; omega
  rw [hl]
  simp only [List.cons_append, List.nil_append, look, e, ht, if_true]

theorem look_short3 {v : Nat} {t : List Int} (h : len3 t = .short) : look v ([77, 84, (v : Int)] ++ t) = .short := by
  simp only [List.cons_append, List.nil_append, look, h, if_true]
theorem look_bad3 {v : Nat} {t : List Int} {k e : Nat} (h : len3 t = .bad k e) : look v ([77, 84, (v : Int)] ++ t) = .bad (3 + k) e := by
  simp only [List.cons_append, List.nil_append, look, h, if_true]

theorem fb_len (r : R) : (fb r).length = 4 := rfl

end Go.Frm
