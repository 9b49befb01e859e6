/- What a step does to a disk's bytes and mark, as mathematics. -/
import Derived.Test.YtahpnfbjpdnapaaDkRot
namespace Go.Proofs.Ytahpnfbjpdnapaa
open Go.RowKit Go.Wire1

/-- A step of a script. -/
structure OpD where
  kind : Int
  second : Bool
  a : Int
  x : Int
  t : Int
  da : Option Addr
  dn : Nat
  dc : Nat
  dl : List Int
def opdZ : OpD := ⟨0, false, 0, 0, 0, none, 0, 0, []⟩
def opc (o : OpD) : List Value := [.int .i64 o.kind, .bool o.second, .int .i64 o.a, .int .i64 o.x, .int .i64 o.t, .slice o.da o.dn o.dc]
def I64 (z : Int) : Prop := -9223372036854775808 ≤ z ∧ z ≤ 9223372036854775807
structure OdOk (w : World) (o : OpD) : Prop where
  seg : Seg w o.da o.dn o.dl
  byt : Byt o.dl
  nil : o.da = none → o.dn = 0 ∧ o.dc = 0
  top : o.dn ≤ 140737488351232
  ba : I64 o.a
  bx : I64 o.x
  bt : I64 o.t
theorem OdOk.below {w w' : World} {o : OpD} {B : Nat} (h : OdOk w o) (hb : Below B w w') (hB : w.heap.size ≤ B) : OdOk w' o := ⟨h.seg.below hb hB, h.byt, h.nil, h.top, h.ba, h.bx, h.bt⟩

/-- How often the data is laid. -/
def fillN (n : Nat) (t : Int) : Nat := if t < 1 ∨ n = 0 ∨ (4194368 : Int) / (n : Int) < t then 1 else t.toNat
def repL (l : List Int) (k : Nat) : List Int := (List.replicate k l).flatten
def fillL (l : List Int) (t : Int) : List Int := repL l (fillN l.length t)
theorem repL_zero (l : List Int) : repL l 0 = [] := rfl
theorem repL_succ (l : List Int) (k : Nat) : repL l (k + 1) = repL l k ++ l := by
  unfold repL; rw [List.replicate_succ']; simp
theorem repL_one (l : List Int) : repL l 1 = l := by simp [repL]
theorem fillL_one {l : List Int} {t : Int} (h : t < 1 ∨ l.length = 0 ∨ (4194368 : Int) / (l.length : Int) < t) : fillL l t = l := by
  unfold fillL fillN; rw [if_pos h, repL_one]
theorem repL_len (l : List Int) (k : Nat) : (repL l k).length = k * l.length := by
  induction k with
  | zero => simp [repL]
  | succ k ih => rw [repL_succ, List.length_append, ih, Nat.succ_mul]
theorem repL_byt {l : List Int} (h : Byt l) (k : Nat) : Byt (repL l k) := fun z hz => by
  unfold repL at hz
  obtain ⟨y, hy, hz2⟩ := List.mem_flatten.1 hz
  rw [List.eq_of_mem_replicate hy] at hz2
  exact h z hz2
theorem fillL_byt {l : List Int} (h : Byt l) (t : Int) : Byt (fillL l t) := repL_byt h _
theorem fillN_le (n : Nat) (t : Int) (hn : n ≤ 140737488351232) : fillN n t * n ≤ 140737488351232 := by
  unfold fillN
  split
  · omega
  · rename_i h
    have h1 : ¬ t < 1 := fun e => h (.inl e)
    have h2 : ¬ n = 0 := fun e => h (.inr (.inl e))
    have h3 : ¬ (4194368 : Int) / (n : Int) < t := fun e => h (.inr (.inr e))
    have h4 : t * (n : Int) ≤ 4194368 := by
      have := Int.ediv_mul_le 4194368 (show (n : Int) ≠ 0 by omega)
      have h5 : t * (n : Int) ≤ (4194368 : Int) / (n : Int) * (n : Int) := Int.mul_le_mul_of_nonneg_right (by omega) (by omega)
      omega
    have h5 : ((t.toNat * n : Nat) : Int) = t * (n : Int) := by rw [Int.natCast_mul, Int.toNat_of_nonneg (by omega)]
    omega
theorem fillL_len (l : List Int) (t : Int) (h : l.length ≤ 140737488351232) : (fillL l t).length ≤ 140737488351232 := by
  unfold fillL; rw [repL_len]; exact fillN_le _ _ h

def dFull (o : OpD) (l : List Int) : Prop := 4194304 < l.length + (fillL o.dl o.t).length
instance (o : OpD) (l : List Int) : Decidable (dFull o l) := by unfold dFull; infer_instance
/-- The error's number, the bytes and the mark behind a step. -/
def dErr (o : OpD) (l : List Int) (m : Nat) : Int :=
  if o.kind = 1 then (if dFull o l then 91 else 0)
  else if o.kind = 3 then (if o.a < 0 then 1 else 0)
  else if o.kind = 4 then (if o.a < m ∨ (l.length : Int) < o.a then 93 else 0)
  else if o.kind = 5 then (if o.a < 0 ∨ (l.length : Int) ≤ o.a then 93 else if o.x < 1 ∨ 255 < o.x then 94 else 0)
  else 0
def dNew (o : OpD) (l : List Int) (m : Nat) : List Int :=
  if dErr o l m = 0 then
    (if o.kind = 1 then l ++ fillL o.dl o.t
    else if o.kind = 3 then l.take (m + min o.a.toNat (l.length - m))
    else if o.kind = 4 then l.take o.a.toNat
    else if o.kind = 5 then l.set o.a.toNat (rotZ (l.getD o.a.toNat 0) o.x)
    else l)
  else l
def dMark (o : OpD) (l : List Int) (m : Nat) : Nat := if o.kind = 2 then l.length else m

theorem dNew_err {o : OpD} {l : List Int} {m : Nat} (h : dErr o l m ≠ 0) : dNew o l m = l := by simp [dNew, h]
theorem dErr_kind2 {o : OpD} {l : List Int} {m : Nat} (h : o.kind = 2) : dErr o l m = 0 := by simp [dErr, h]
theorem dMark_err {o : OpD} {l : List Int} {m : Nat} (h : dErr o l m ≠ 0) : dMark o l m = m := by
  unfold dMark
  split
  · rename_i e; exact absurd (dErr_kind2 e) h
  · rfl
/-- But for rot the synced bytes stay. -/
theorem dNew_safe {o : OpD} {l : List Int} {m : Nat} (hm : m ≤ l.length) (h5 : o.kind ≠ 5) : (dNew o l m).take m = l.take m ∧ m ≤ (dNew o l m).length := by
  unfold dNew
  split
  · split
    · rw [List.take_append_of_le_length hm, List.length_append]; exact ⟨rfl, by omega⟩
    · split
      · rw [List.take_take, List.length_take]; exact ⟨by rw [Nat.min_eq_left (by omega)], by omega⟩
      · split
        · rename_i h0 h1 h3 h4
          have h6 : ¬ (o.a < (m : Int) ∨ (l.length : Int) < o.a) := by
            intro hc
            simp [dErr, h4, hc] at h0
          rw [List.take_take, List.length_take]
          exact ⟨by rw [Nat.min_eq_left (by omega)], by omega⟩
        · first | exact ⟨rfl, hm⟩ | (rw [if_neg h5]; exact ⟨rfl, hm⟩)
  · exact ⟨rfl, hm⟩
theorem dMark_else {o : OpD} {l : List Int} {m : Nat} (h : o.kind ≠ 2) : dMark o l m = m := by simp [dMark, h]
theorem dMark_two {o : OpD} {l : List Int} {m : Nat} (h : o.kind = 2) : dMark o l m = l.length := by simp [dMark, h]
theorem dNew_two {o : OpD} {l : List Int} {m : Nat} (h : o.kind = 2) : dNew o l m = l := by simp [dNew, h]
end Go.Proofs.Ytahpnfbjpdnapaa
