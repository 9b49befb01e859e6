/- Texts of the proof, joined. -/
import Derived.Test.YtnjihfbghaefoaaGreatDoorJ35
/- A stream's fields, and what it does with the bytes that it is fed, held against what bytes are from a frame's first on; nothing of the program is named here. -/
namespace Go.Frm
open Go.RowKit Go.Wire1 Go.Crc2

/-- A stream's fields. -/
structure Sm where
  v : Nat
  fault : Nat
  place : Nat
  held : Nat
  part : Nat
  left : Nat
  head : List Int
  pay : List Int
  sum : R

def zero6 : List Int := [0, 0, 0, 0, 0, 0]
def fresh (v pl : Nat) : Sm := ⟨v, 0, pl, 0, 0, 0, zero6, [], 0#32⟩
def brk (pl e : Nat) : Sm := ⟨0, e, pl, 0, 6, 0, zero6, [], 0#32⟩
def Sm.keep (s : Sm) (x : Int) : Sm := { s with head := s.head.set s.held x, held := s.held + 1 }
def Sm.tMagic (s : Sm) (x : Int) : Sm := if x = ([77, 84] : List Int).getD s.held 0 then (if s.held + 1 = 2 then { s.keep x with part := 1 } else s.keep x) else brk s.place 71
def Sm.tVersion (s : Sm) (x : Int) : Sm := if x = (s.v : Int) then { s.keep x with part := 2 } else brk s.place 72
def Sm.long (s : Sm) (n : Nat) : Sm := { s with part := 3, left := n, sum := upd 0#32 (s.head.take s.held) }
def Sm.tLength' (s : Sm) : Except Nat (Nat × Nat) → Sm
  | .error 2 => brk s.place 13
  | .error 0 => if s.held = 6 then brk s.place 73 else s
  | .error _ => s
  | .ok (n, _) => if 1048576 < n then brk s.place 73 else s.long n
def Sm.tLength (s : Sm) (x : Int) : Sm := (s.keep x).tLength' (dec (((s.keep x).head.take (s.held + 1)).drop 3))
def Sm.got (s : Sm) (run : List Int) : Sm := { s with pay := s.pay ++ run, sum := upd s.sum run, held := s.held + run.length, left := s.left - run.length }
def Sm.tPay (s : Sm) (run : List Int) : Sm := if s.left - run.length = 0 then { s.got run with part := 4, left := 4 } else s.got run
def Sm.shift (s : Sm) : Sm := { s with sum := s.sum >>> 8, held := s.held + 1, left := s.left - 1 }
def Sm.tSum (s : Sm) (x : Int) : Sm := if x = ((s.sum.toNat % 256 : Nat) : Int) then (if s.left - 1 = 0 then { s.shift with part := 5 } else s.shift) else brk s.place 74

/-- One round of Feed: how many bytes, and what comes of it. -/
def Sm.size (s : Sm) (l : List Int) : Nat := if s.part = 3 then min s.left l.length else 1
def Sm.step (s : Sm) (l : List Int) : Sm :=
  if s.part = 0 then s.tMagic (l.getD 0 0) else if s.part = 1 then s.tVersion (l.getD 0 0) else if s.part = 2 then s.tLength (l.getD 0 0) else if s.part = 3 then s.tPay (l.take (min s.left l.length)) else s.tSum (l.getD 0 0)

/-- A stream in the midst of a frame, its bytes so far h. -/
structure Liv (v pl : Nat) (h : List Int) (s : Sm) : Prop where
  ver : s.v = v
  fault : s.fault = 0
  place : s.place = pl
  held : s.held = h.length
  six : s.head.length = 6
  byt : Byt h
  which : (s.part = 0 ∧ s.pay = [] ∧ h.length < 2 ∧ h = ([77, 84] : List Int).take h.length ∧ s.head.take h.length = h) ∨
    (s.part = 1 ∧ s.pay = [] ∧ h = [77, 84] ∧ s.head.take h.length = h) ∨
    (s.part = 2 ∧ s.pay = [] ∧ ∃ t, h = [77, 84, (v : Int)] ++ t ∧ len3 t = .short ∧ s.head.take h.length = h) ∨
    (s.part = 3 ∧ ∃ n hd, Hd v n hd ∧ h = hd ++ s.pay ∧ s.pay.length + s.left = n ∧ (0 < s.left ∨ n = 0) ∧ s.sum = upd 0#32 h) ∨
    (s.part = 4 ∧ ∃ n hd c, Hd v n hd ∧ h = hd ++ s.pay ++ c ∧ s.pay.length = n ∧ c.length + s.left = 4 ∧ 0 < s.left ∧ c = (fb (upd 0#32 (hd ++ s.pay))).take c.length ∧ s.sum = upd 0#32 (hd ++ s.pay) >>> (8 * c.length))
/-- A stream in which a payload waits. -/
structure Wai (v pl : Nat) (h : List Int) (s : Sm) : Prop where
  ver : s.v = v
  fault : s.fault = 0
  place : s.place = pl
  held : s.held = h.length
  part : s.part = 5
  six : s.head.length = 6
  which : ∃ hd, Hd v s.pay.length hd ∧ h = hd ++ s.pay ++ fb (upd 0#32 (hd ++ s.pay))
  byt : Byt h

theorem take_set {h : List Int} {hd : List Int} {x : Int} (hl : h.length < hd.length) (e : hd.take h.length = h) : (hd.set h.length x).take (h.length + 1) = h ++ [x] := by
  rw [List.take_succ_eq_append_getElem (by simpa using hl), List.take_set_of_le (Nat.le_refl _), e]
  simp

theorem Liv.short {v pl : Nat} {h : List Int} {s : Sm} (L : Liv v pl h s) : look v h = .short := by
  rcases L.which with ⟨_, _, hl, e, _⟩ | ⟨_, _, e, _⟩ | ⟨_, _, t, e, e', _⟩ | ⟨_, n, hd, H, e, hn, h0, hs⟩ | ⟨_, n, hd, c, H, e, hn, hc, h0, e', hs⟩
  · rcases (by omega : h.length = 0 ∨ h.length = 1) with q | q <;> rw [q] at e <;> rw [e] <;> rfl
  · rw [e]; rfl
  · rw [e]; exact look_short3 e'
  · rw [e, look_hd H]
    have : (hd ++ s.pay).drop (hd.length + n) = [] := List.drop_eq_nil_of_le (by simp; omega)
    rw [this]
    exact lookS_short _ _ _ _ _ (by simp) (by simp [fb_len])
  · rw [e, List.append_assoc, look_hd H]
    have e1 : (hd ++ (s.pay ++ c)).drop (hd.length + n) = c := by rw [← List.append_assoc]; exact List.drop_left' (by simp; omega)
    have e2 : (hd ++ (s.pay ++ c)).take (hd.length + n) = hd ++ s.pay := by rw [← List.append_assoc]; exact List.take_left' (by simp; omega)
    rw [e1, e2]
    exact lookS_short _ _ _ _ _ e' (by rw [fb_len]; omega)

theorem Wai.whole {v pl : Nat} {h : List Int} {s : Sm} (L : Wai v pl h s) : ∃ f t, look v h = .whole f t ∧ t + 4 = h.length ∧ (h.take t).drop f = s.pay ∧ f ≤ t := by
  obtain ⟨hd, H, e⟩ := L.which
  refine ⟨hd.length, hd.length + s.pay.length, ?_, ?_, ?_, by omega⟩
  · rw [e, List.append_assoc, look_hd H]
    have e1 : (hd ++ (s.pay ++ fb (upd 0#32 (hd ++ s.pay)))).drop (hd.length + s.pay.length) = fb (upd 0#32 (hd ++ s.pay)) := by rw [← List.append_assoc]; exact List.drop_left' (by simp)
    have e2 : (hd ++ (s.pay ++ fb (upd 0#32 (hd ++ s.pay)))).take (hd.length + s.pay.length) = hd ++ s.pay := by rw [← List.append_assoc]; exact List.take_left' (by simp)
    rw [e1, e2]
    have := lookS_whole hd.length (hd.length + s.pay.length) (fb (upd 0#32 (hd ++ s.pay))) [] 0
    rwa [List.append_nil] at this
  · rw [e]; simp [fb_len]; omega
  · have e2 : h.take (hd.length + s.pay.length) = hd ++ s.pay := by rw [e]; exact List.take_left' (by simp)
    rw [e2]; simp

/-- What a round comes to. -/
def Came (v pl : Nat) (h : List Int) (s : Sm) : Prop := Liv v pl h s ∨ Wai v pl h s ∨ ∃ e, s = brk pl e ∧ 0 < e ∧ e < 100 ∧ look v h = .bad h.length e

theorem byt_snoc {h : List Int} {x : Int} (hy : Byt h) (hx : 0 ≤ x ∧ x < 256) : Byt (h ++ [x]) := byt_app hy (fun z hz => by simp at hz; subst hz; exact hx)

theorem Liv.at1 {v pl : Nat} {h : List Int} {s : Sm} (L : Liv v pl h s) (hp : s.part = 1) : s.pay = [] ∧ h = [77, 84] ∧ s.head.take h.length = h := by
  rcases L.which with ⟨q, _⟩ | ⟨_, r⟩ | ⟨q, _⟩ | ⟨q, _⟩ | ⟨q, _⟩
  · omega
  · exact r
  all_goals omega
theorem Liv.at2 {v pl : Nat} {h : List Int} {s : Sm} (L : Liv v pl h s) (hp : s.part = 2) : s.pay = [] ∧ ∃ t, h = [77, 84, (v : Int)] ++ t ∧ len3 t = .short ∧ s.head.take h.length = h := by
  rcases L.which with ⟨q, _⟩ | ⟨q, _⟩ | ⟨_, r⟩ | ⟨q, _⟩ | ⟨q, _⟩
  · omega
  · omega
  · exact r
  all_goals omega
theorem Liv.version {v pl : Nat} {h : List Int} {s : Sm} (L : Liv v pl h s) (x : Int) (hx : 0 ≤ x ∧ x < 256) (hp : s.part = 1) : Came v pl (h ++ [x]) (s.tVersion x) := by
  obtain ⟨hpay, e, e'⟩ := L.at1 hp
  have hs := L.six
  have hh := L.held
  have hl : h.length = 2 := by rw [e]; rfl
  have et := take_set (x := x) (by omega : h.length < s.head.length) e'
  unfold Sm.tVersion
  rw [L.ver]
  by_cases hc : x = (v : Int)
  · rw [if_pos hc]
    refine .inl ⟨L.ver, L.fault, L.place, by simp [Sm.keep, hh], by simp [Sm.keep, hs], byt_snoc L.byt hx, .inr (.inr (.inl ⟨rfl, hpay, [], by rw [e, hc]; rfl, rfl, ?_⟩))⟩
    simp only [Sm.keep, hh, List.length_append, List.length_cons, List.length_nil, Nat.zero_add]; exact et
  · rw [if_neg hc]
    refine .inr (.inr ⟨72, by rw [L.place], by decide, by decide, ?_⟩)
    rw [e]; simp [look, hc]

theorem Liv.length {v pl : Nat} {h : List Int} {s : Sm} (L : Liv v pl h s) (x : Int) (hx : 0 ≤ x ∧ x < 256) (hp : s.part = 2) : Came v pl (h ++ [x]) (s.tLength x) := by
  obtain ⟨hpay, t, e, e', e''⟩ := L.at2 hp
  have hs := L.six
  have hh := L.held
  have hy := byt_snoc L.byt hx
  have hyt : Byt (t ++ [x]) := fun z hz => hy z (by rw [e, List.append_assoc]; exact List.mem_append_right _ hz)
  obtain ⟨ht, hd⟩ := dec_ln x hyt e'
  have hl : h.length = 3 + t.length := by rw [e]; simp; omega
  have et := take_set (x := x) (by omega : h.length < s.head.length) e''
  have ed : ((s.keep x).head.take (s.held + 1)).drop 3 = t ++ [x] := by
    simp only [Sm.keep, hh]; rw [et, e]; rfl
  have ek : (s.keep x).head.take (h ++ [x]).length = h ++ [x] := by
    simp only [Sm.keep, hh, List.length_append, List.length_cons, List.length_nil, Nat.zero_add]; exact et
  have e3 : h ++ [x] = [77, 84, (v : Int)] ++ (t ++ [x]) := by rw [e, List.append_assoc]
  have hkh : (s.keep x).held = (h ++ [x]).length := by simp [Sm.keep, hh]
  have hk6 : (s.keep x).head.length = 6 := by simp [Sm.keep, hs]
  unfold Sm.tLength
  rw [ed]
  have hlen : (h ++ [x]).length = 3 + (t.length + 1) := by simp; omega
  cases hr : dec (t ++ [x]) with
  | ok p =>
    obtain ⟨n, m⟩ := p
    rw [hr] at hd
    simp only [Sm.tLength'] at hd ⊢
    by_cases hc : 1048576 < n
    · rw [if_pos hc] at hd ⊢
      refine .inr (.inr ⟨73, by show brk s.place 73 = _; rw [L.place], by decide, by decide, ?_⟩)
      rw [e3, look_bad3 hd, ← e3, hlen]
    · rw [if_neg hc] at hd ⊢
      refine .inl ⟨L.ver, L.fault, L.place, hkh, hk6, hy, .inr (.inr (.inr (.inl ⟨rfl, n, h ++ [x], ⟨t ++ [x], e3, by rw [hd]; simp⟩, ?_, ?_, ?_, ?_⟩)))⟩
      · show h ++ [x] = (h ++ [x]) ++ s.pay; rw [hpay, List.append_nil]
      · show s.pay.length + n = n; rw [hpay]; simp
      · show 0 < n ∨ n = 0; omega
      · show upd 0#32 ((s.keep x).head.take (s.keep x).held) = _; rw [hkh, ek]
  | error i =>
    rw [hr] at hd
    match i, hd with
    | 0, hd =>
      simp only [Sm.tLength'] at hd ⊢
      by_cases hc : t.length + 1 = 3
      · rw [if_pos hc] at hd
        rw [if_pos (by rw [hkh, hlen]; omega)]
        refine .inr (.inr ⟨73, by show brk s.place 73 = _; rw [L.place], by decide, by decide, ?_⟩)
        rw [e3, look_bad3 hd, ← e3, hlen]
      · rw [if_neg hc] at hd
        rw [if_neg (by rw [hkh, hlen]; omega)]
        exact .inl ⟨L.ver, L.fault, L.place, hkh, hk6, hy, .inr (.inr (.inl ⟨hp, hpay, t ++ [x], e3, hd, ek⟩))⟩
    | 2, hd =>
      simp only [Sm.tLength'] at hd ⊢
      refine .inr (.inr ⟨13, by show brk s.place 13 = _; rw [L.place], by decide, by decide, ?_⟩)
      rw [e3, look_bad3 hd, ← e3, hlen]
    | 1, hd => exact hd.elim
    | _ + 3, hd => exact hd.elim

end Go.Frm
