/- The plain mathematics of texts and ranges of keys: the order of texts, what a command touches, which two conflict; nothing of the program is named here. -/
import Derived.Test.YtdpphagogjdjjaaMath
import Derived.Lib.MinMaxS
import Derived.Laws.Concat
namespace Go.Wire1
open Go.RowKit Go.Lib

/-- The order of texts. -/
def tlt (x y : ByteArray) : Bool := Op.bytesLess x.toList y.toList
def teq (x y : ByteArray) : Bool := x.toList == y.toList

theorem teq_iff (x y : ByteArray) : teq x y = true ↔ x = y := by
  unfold teq
  rw [beq_iff_eq, Lib.toList_data, Lib.toList_data]
  constructor
  · intro h
    cases x; cases y
    exact congrArg ByteArray.mk (Array.toList_inj.1 h)
  · intro h; rw [h]
theorem tlt_iff (x y : ByteArray) : tlt x y = true ↔ x.data.toList < y.data.toList := by
  unfold tlt; rw [Proofs.bytesLess_eq, decide_eq_true_eq, Lib.toList_data, Lib.toList_data]
theorem tlt_irrefl (x : ByteArray) : tlt x x = false := by
  rw [Bool.eq_false_iff]; intro h; exact List.lt_irrefl _ ((tlt_iff x x).1 h)
theorem tlt_trans {x y z : ByteArray} (h : tlt x y = true) (k : tlt y z = true) : tlt x z = true :=
  (tlt_iff _ _).2 (List.lt_trans ((tlt_iff _ _).1 h) ((tlt_iff _ _).1 k))
theorem tlt_asymm {x y : ByteArray} (h : tlt x y = true) : tlt y x = false := by
  rw [Bool.eq_false_iff]; intro k
  have := tlt_trans h k
  rw [tlt_irrefl] at this; cases this
theorem tlt_total {x y : ByteArray} (h : tlt x y = false) (k : tlt y x = false) : x = y := by
  have h' : ¬ x.data.toList < y.data.toList := fun e => by rw [(tlt_iff x y).2 e] at h; cases h
  have k' : ¬ y.data.toList < x.data.toList := fun e => by rw [(tlt_iff y x).2 e] at k; cases k
  have e : x.data.toList = y.data.toList := List.le_antisymm k' h'
  cases x; cases y
  exact congrArg ByteArray.mk (Array.toList_inj.1 e)
theorem tlt_next (x z : ByteArray) (hz : 0 < z.size) : tlt x (x ++ z) = true := by
  rw [tlt_iff]
  rw [show (x ++ z).data.toList = x.data.toList ++ z.data.toList by simp]
  have hz' : z.data.toList ≠ [] := by
    intro e
    have : z.size = 0 := by rw [Lib.size_eq, e]; rfl
    omega
  generalize x.data.toList = l
  generalize z.data.toList = m at hz'
  induction l with
  | nil => cases m with
    | nil => exact absurd rfl hz'
    | cons a r => simp
  | cons a r ih => simpa using ih

/-- A range of keys: the first key in it, the first key behind it, may it be written. -/
structure Tch where
  k : ByteArray
  e : ByteArray
  w : Bool

def tzero : ByteArray := ⟨#[0]⟩
def tnext (k : ByteArray) : ByteArray := k ++ tzero
theorem tnext_lt (k : ByteArray) : tlt k (tnext k) = true := tlt_next k tzero (by decide)

def touchL (kind : Int) (k k2 : ByteArray) : List Tch :=
  if kind = 1 then [⟨k, tnext k, false⟩]
  else if 2 ≤ kind ∧ kind ≤ 5 then [⟨k, tnext k, true⟩]
  else if kind = 6 then [⟨k, tnext k, true⟩, ⟨k2, tnext k2, true⟩]
  else if kind = 7 then [⟨k, tnext k, false⟩, ⟨k2, tnext k2, true⟩]
  else if kind = 8 then (if tlt k k2 then [⟨k, k2, false⟩] else [])
  else []

theorem touchL_len (kind : Int) (k k2 : ByteArray) : (touchL kind k k2).length ≤ 2 := by
  unfold touchL; repeat' split
  all_goals simp
theorem touchL_ok {kind : Int} {k k2 : ByteArray} : ∀ t ∈ touchL kind k k2, tlt t.k t.e = true := by
  unfold touchL
  intro t ht
  split at ht
  · simp at ht; subst ht; exact tnext_lt _
  · split at ht
    · simp at ht; subst ht; exact tnext_lt _
    · split at ht
      · simp at ht; rcases ht with rfl | rfl <;> exact tnext_lt _
      · split at ht
        · simp at ht; rcases ht with rfl | rfl <;> exact tnext_lt _
        · split at ht
          · split at ht
            · rename_i h; simp at ht; subst ht; exact h
            · simp at ht
          · simp at ht

/-- The program's look: the higher one of the first keys is below the lower one of the ends. -/
def meetB (x y : Tch) : Bool := tlt (maxS x.k y.k) (minS x.e y.e)
def hitB (x y : Tch) : Bool := (x.w || y.w) && meetB x y
def clashB (L M : List Tch) : Bool := L.any fun x => M.any fun y => hitB x y

/-- Does the key lie in the range? -/
def inB (k : ByteArray) (t : Tch) : Bool := (tlt t.k k || teq t.k k) && tlt k t.e

theorem maxS_eq (x y : ByteArray) : maxS x y = if tlt x y = true then y else x := by
  unfold maxS; simp only [tlt_iff]
theorem minS_eq (x y : ByteArray) : minS x y = if tlt x y = true ∨ teq x y = true then x else y := by
  unfold minS
  have : (x.data.toList = y.data.toList) ↔ teq x y = true := by
    rw [teq_iff]
    constructor
    · intro h; cases x; cases y; exact congrArg ByteArray.mk (Array.toList_inj.1 h)
    · intro h; rw [h]
  simp only [tlt_iff, this]

theorem lt_min {z x y : ByteArray} : tlt z (minS x y) = true ↔ tlt z x = true ∧ tlt z y = true := by
  rw [minS_eq]
  by_cases h : tlt x y = true ∨ teq x y = true
  · rw [if_pos h]
    constructor
    · intro hz
      refine ⟨hz, ?_⟩
      rcases h with h | h
      · exact tlt_trans hz h
      · rw [← (teq_iff _ _).1 h]; exact hz
    · exact fun h => h.1
  · rw [if_neg h]
    constructor
    · intro hz
      refine ⟨?_, hz⟩
      have h1 : tlt x y = false := by rw [Bool.eq_false_iff]; exact fun e => h (.inl e)
      cases h2 : tlt y x with
      | true => exact tlt_trans hz h2
      | false => exact absurd (.inr ((teq_iff x y).2 (tlt_total h1 h2))) h
    · exact fun h => h.2

theorem inB_iff (k : ByteArray) (t : Tch) : inB k t = true ↔ tlt k t.k = false ∧ tlt k t.e = true := by
  unfold inB
  rw [Bool.and_eq_true, Bool.or_eq_true]
  constructor
  · rintro ⟨h | h, h2⟩
    · exact ⟨tlt_asymm h, h2⟩
    · rw [(teq_iff _ _).1 h]; rw [(teq_iff _ _).1 h] at *; exact ⟨tlt_irrefl _, h2⟩
  · rintro ⟨h, h2⟩
    refine ⟨?_, h2⟩
    cases h3 : tlt t.k k with
    | true => exact .inl rfl
    | false => exact .inr ((teq_iff _ _).2 (tlt_total h3 h))

theorem max_in {x y : Tch} : meetB x y = true ↔ inB (maxS x.k y.k) x = true ∧ inB (maxS x.k y.k) y = true := by
  have h1 : tlt (maxS x.k y.k) x.k = false := by
    rw [maxS_eq]; split
    · rename_i h; exact tlt_asymm h
    · exact tlt_irrefl _
  have h2 : tlt (maxS x.k y.k) y.k = false := by
    rw [maxS_eq]; split
    · exact tlt_irrefl _
    · rename_i h; simpa using h
  unfold meetB
  rw [lt_min, inB_iff, inB_iff]
  exact ⟨fun h => ⟨⟨h1, h.1⟩, h2, h.2⟩, fun h => ⟨h.1.2, h.2.2⟩⟩

theorem meet_of_in {x y : Tch} {k : ByteArray} (h : inB k x = true) (h' : inB k y = true) : meetB x y = true := by
  rw [inB_iff] at h h'
  unfold meetB
  rw [lt_min]
  have hle : ∀ z, tlt k z = true → tlt (maxS x.k y.k) z = true := by
    intro z hz
    rw [maxS_eq]
    have go : ∀ u, tlt k u = false → tlt u z = true := by
      intro u hu
      cases h3 : tlt u k with
      | true => exact tlt_trans h3 hz
      | false => rw [tlt_total h3 hu]; exact hz
    split
    · exact go _ h'.1
    · exact go _ h.1
  exact ⟨hle _ h.2, hle _ h'.2⟩

theorem meet_comm (x y : Tch) : meetB x y = meetB y x := by
  rw [Bool.eq_iff_iff]
  exact ⟨fun h => meet_of_in (max_in.1 h).2 (max_in.1 h).1, fun h => meet_of_in (max_in.1 h).2 (max_in.1 h).1⟩
theorem meet_self {x : Tch} (h : tlt x.k x.e = true) : meetB x x = true :=
  meet_of_in (k := x.k) ((inB_iff _ _).2 ⟨tlt_irrefl _, h⟩) ((inB_iff _ _).2 ⟨tlt_irrefl _, h⟩)

/-- The document's own look. -/
theorem meet_ref {x y : Tch} (hx : tlt x.k x.e = true) (hy : tlt y.k y.e = true) : meetB x y = (inB x.k y || inB y.k x) := by
  rw [Bool.eq_iff_iff, Bool.or_eq_true]
  constructor
  · intro h
    have := max_in.1 h
    rw [maxS_eq] at this
    split at this
    · exact .inr this.1
    · exact .inl this.2
  · rintro (h | h)
    · exact meet_of_in ((inB_iff _ _).2 ⟨tlt_irrefl _, hx⟩) h
    · exact meet_of_in h ((inB_iff _ _).2 ⟨tlt_irrefl _, hy⟩)

theorem clash_iff {L M : List Tch} : clashB L M = true ↔ ∃ x ∈ L, ∃ y ∈ M, (x.w = true ∨ y.w = true) ∧ meetB x y = true := by
  unfold clashB hitB
  simp only [List.any_eq_true, Bool.and_eq_true, Bool.or_eq_true]
theorem clash_comm (L M : List Tch) : clashB L M = clashB M L := by
  rw [Bool.eq_iff_iff, clash_iff, clash_iff]
  constructor
  · rintro ⟨x, hx, y, hy, hw, h⟩; exact ⟨y, hy, x, hx, hw.symm, by rw [meet_comm]; exact h⟩
  · rintro ⟨x, hx, y, hy, hw, h⟩; exact ⟨y, hy, x, hx, hw.symm, by rw [meet_comm]; exact h⟩
theorem clash_none (L : List Tch) : clashB L [] = false := by
  unfold clashB; simp
theorem clash_reads {L M : List Tch} (h : ∀ x ∈ L, x.w = false) (k : ∀ y ∈ M, y.w = false) : clashB L M = false := by
  rw [Bool.eq_false_iff]; intro e
  obtain ⟨x, hx, y, hy, hw, _⟩ := clash_iff.1 e
  rw [h x hx, k y hy] at hw
  rcases hw with h | h <;> cases h

theorem touch_reads {kind : Int} {k k2 : ByteArray} (h : ¬ (2 ≤ kind ∧ kind ≤ 7)) : ∀ x ∈ touchL kind k k2, x.w = false := by
  unfold touchL
  intro x hx
  split at hx
  · simp at hx; subst hx; rfl
  · rw [if_neg (by omega), if_neg (by omega), if_neg (by omega)] at hx
    split at hx
    · split at hx
      · simp at hx; subst hx; rfl
      · simp at hx
    · simp at hx

def lastKey (kind : Int) (k k2 : ByteArray) : ByteArray := if kind = 6 ∨ kind = 7 then k2 else k
theorem touch_writes {kind : Int} {k k2 : ByteArray} (h : 2 ≤ kind ∧ kind ≤ 7) : (⟨lastKey kind k k2, tnext (lastKey kind k k2), true⟩ : Tch) ∈ touchL kind k k2 := by
  unfold touchL lastKey
  rw [if_neg (by omega)]
  by_cases h5 : kind ≤ 5
  · rw [if_pos ⟨h.1, h5⟩, if_neg (by omega)]; simp
  · rw [if_neg (by omega)]
    by_cases h6 : kind = 6
    · rw [if_pos h6, if_pos (.inl h6)]; simp
    · rw [if_neg h6, if_pos (by omega), if_pos (by omega)]; simp

theorem clash_self (kind : Int) (k k2 : ByteArray) : clashB (touchL kind k k2) (touchL kind k k2) = decide (2 ≤ kind ∧ kind ≤ 7) := by
  by_cases h : 2 ≤ kind ∧ kind ≤ 7
  · rw [decide_eq_true h, clash_iff]
    exact ⟨_, touch_writes h, _, touch_writes h, .inl rfl, meet_self (tnext_lt _)⟩
  · rw [decide_eq_false h]; exact clash_reads (touch_reads h) (touch_reads h)
theorem clash_get (kind : Int) (k k2 : ByteArray) : clashB (touchL 1 (lastKey kind k k2) ByteArray.empty) (touchL kind k k2) = decide (2 ≤ kind ∧ kind ≤ 7) := by
  by_cases h : 2 ≤ kind ∧ kind ≤ 7
  · rw [decide_eq_true h, clash_iff]
    exact ⟨⟨_, _, false⟩, by unfold touchL; rw [if_pos rfl]; simp only [List.mem_singleton], _, touch_writes h, .inr rfl, meet_self (x := ⟨_, _, false⟩) (tnext_lt _)⟩
  · rw [decide_eq_false h]; exact clash_reads (touch_reads (by omega)) (touch_reads h)

/-- What the statement's own look over the first keys finds. -/
def inAny (k : ByteArray) (L : List Tch) : Bool := L.any (inB k)
def inWr (k : ByteArray) (L : List Tch) : Bool := L.any fun t => inB k t && t.w
def foundB (L M : List Tch) (keys : List ByteArray) : Bool := keys.any fun k => inAny k L && inAny k M && (inWr k L || inWr k M)
theorem found_clash (L M : List Tch) : foundB L M (L.map Tch.k ++ M.map Tch.k) = clashB L M := by
  rw [Bool.eq_iff_iff, clash_iff]
  unfold foundB inAny inWr
  simp only [List.any_eq_true, Bool.and_eq_true, Bool.or_eq_true]
  constructor
  · rintro ⟨k, _, ⟨⟨x, hx, hkx⟩, ⟨y, hy, hky⟩⟩, (⟨z, hz, hkz, hw⟩ | ⟨z, hz, hkz, hw⟩)⟩
    · exact ⟨z, hz, y, hy, .inl hw, meet_of_in hkz hky⟩
    · exact ⟨x, hx, z, hz, .inr hw, meet_of_in hkx hkz⟩
  · rintro ⟨x, hx, y, hy, hw, h⟩
    have hm := max_in.1 h
    refine ⟨maxS x.k y.k, ?_, ⟨⟨x, hx, hm.1⟩, ⟨y, hy, hm.2⟩⟩, ?_⟩
    · rw [maxS_eq, List.mem_append, List.mem_map, List.mem_map]
      split
      · exact .inr ⟨y, hy, rfl⟩
      · exact .inl ⟨x, hx, rfl⟩
    · rcases hw with hw | hw
      · exact .inl ⟨x, hx, hm.1, hw⟩
      · exact .inr ⟨y, hy, hm.2, hw⟩
end Go.Wire1
