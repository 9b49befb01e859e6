/- Texts of the proof, joined. -/
import Derived.Test.YtlapgnbiflcpfaaGreatDoorJ02
import Derived.Test.YtlapgnbiflcpfaaGreatDoorJ13
import Derived.Test.YtlapgnbiflcpfaaGreatDoorJ09
import Derived.Lib.AppendStr
/- The plain mathematics of a command's bytes; nothing of the program is named here. -/
namespace Go.Wire1
open Go.RowKit

/-- A text's bytes, as numbers. -/
def tx (s : ByteArray) : List Int := s.data.toList.map fun b => (b.toNat : Int)
theorem tx_len (s : ByteArray) : (tx s).length = s.size := by
  show (s.data.toList.map _).length = s.data.size
  rw [List.length_map, Array.length_toList]
/-- A text as an item: its length, its bytes. -/
def ptx (s : ByteArray) : List Int := enc s.size ++ tx s
/-- How many bytes two texts share at their beginning. -/
def shL : List UInt8 → List UInt8 → Nat
  | a :: x, b :: y => if a = b then shL x y + 1 else 0
  | _, _ => 0
def shared (k k2 : ByteArray) : Nat := shL k.data.toList k2.data.toList
theorem shL_le : ∀ x y : List UInt8, shL x y ≤ x.length ∧ shL x y ≤ y.length
  | [], _ => by simp [shL]
  | _ :: _, [] => by simp [shL]
  | a :: x, b :: y => by
    have := shL_le x y
    simp only [shL]
    split <;> simp <;> omega
theorem shared_le (k k2 : ByteArray) : shared k k2 ≤ k.size ∧ shared k k2 ≤ k2.size := by
  have := shL_le k.data.toList k2.data.toList
  rw [← Lib.size_eq, ← Lib.size_eq] at this
  exact this
theorem shL_drop : ∀ (i : Nat) (x y : List UInt8), i < x.length → i < y.length → shL (x.drop i) (y.drop i) = if x.getD i 0 = y.getD i 0 then shL (x.drop (i + 1)) (y.drop (i + 1)) + 1 else 0 := by
  intro i x y hx hy
  rw [List.drop_eq_getElem_cons hx, List.drop_eq_getElem_cons hy, List.getD, List.getD, List.getElem?_eq_getElem hx, List.getElem?_eq_getElem hy]
  rfl
theorem shL_end (i : Nat) (x y : List UInt8) (h : x.length ≤ i ∨ y.length ≤ i) : shL (x.drop i) (y.drop i) = 0 := by
  rcases h with h | h
  · rw [List.drop_eq_nil_of_le h]; rfl
  · rw [List.drop_eq_nil_of_le h]; cases x.drop i <;> rfl

def restC (c : Cm) : List Int :=
  if 6 ≤ c.kind then enc (shared c.key c.key2) ++ ptx (c.key2.extract (shared c.key c.key2) c.key2.size)
  else if c.kind = 5 then ptx c.old ++ ptx c.val
  else if c.kind = 2 then ptx c.val
  else if c.kind = 4 then enc (zig c.n)
  else []
/-- The bytes of a command. -/
def encC (c : Cm) : List Int := if c.kind = 0 then [0] else [c.kind] ++ enc c.client.toNat ++ enc c.req.toNat ++ ptx c.key ++ restC c

theorem chk_zero {v : Int} {c : Cm} (h : chk v c = 0) : (v = 1 ∨ v = 2) ∧ isKd v c.kind = true ∧ ∀ f, f < 7 → faultF v c f = 0 := by
  unfold chk at h
  cases h1 : isVer v with
  | false => rw [h1] at h; simp at h
  | true =>
    cases h2 : isKd v c.kind with
    | false => rw [h1, h2] at h; simp at h
    | true =>
      rw [h1, h2] at h
      simp only [if_true] at h
      refine ⟨by simpa [isVer] using h1, rfl, ?_⟩
      have go : ∀ k f, firstF v c k f = 0 → ∀ j, f ≤ j → j < f + k → faultF v c j = 0 := by
        intro k
        induction k with
        | zero => intro f _ j h1 h2; omega
        | succ k ih =>
          intro f hf j h1 h2
          simp only [firstF] at hf
          by_cases h0 : faultF v c f = 0
          · rw [if_pos h0] at hf
            by_cases e : j = f
            · rw [e]; exact h0
            · exact ih (f + 1) hf j (by omega) (by omega)
          · rw [if_neg h0] at hf; exact absurd hf h0
      exact fun f hf => go 7 0 h f (by omega) (by omega)
theorem has_allow {v : Int} {c : Cm} {f : Nat} (h : faultF v c f = 0) (hf : f < 6) (hh : hasF c.kind f = true) : allowF v c f = true := by
  unfold faultF at h
  rw [hh] at h
  simp only [if_true] at h
  cases ha : allowF v c f with
  | true => rfl
  | false =>
    rw [ha] at h
    simp only [Bool.false_eq_true, if_false, errF] at h
    split at h <;> omega
/-- What a command that Check takes is. -/
structure Sound (c : Cm) : Prop where
  k0 : 0 ≤ c.kind
  k8 : c.kind ≤ 8
  client : c.kind ≠ 0 → 0 ≤ c.client ∧ c.client ≤ 65535
  req : c.kind ≠ 0 → 0 ≤ c.req ∧ c.req ≤ 1073741824
  key : c.kind ≠ 0 → 1 ≤ c.key.size ∧ c.key.size ≤ 64
  key2 : 6 ≤ c.kind → 1 ≤ c.key2.size ∧ c.key2.size ≤ 64 ∧ isPairB c.kind c.key c.key2 = true
  val : c.kind = 2 ∨ c.kind = 5 → c.val.size ≤ 65536
  old : c.kind = 5 → c.old.size ≤ 65536
theorem hasT (k : Fin 9) : (k.val ≠ 0 → hasF (k.val : Int) 0 = true ∧ hasF (k.val : Int) 1 = true ∧ hasF (k.val : Int) 2 = true) ∧ (6 ≤ k.val → hasF (k.val : Int) 3 = true) ∧ (k.val = 2 ∨ k.val = 5 → hasF (k.val : Int) 4 = true) ∧ (k.val = 5 → hasF (k.val : Int) 5 = true) := by
  revert k; decide
theorem sound_of {v : Int} {c : Cm} (h : chk v c = 0) : Sound c := by
  obtain ⟨hv, hk, hf⟩ := chk_zero h
  simp only [isKd, Bool.and_eq_true, decide_eq_true_eq] at hk
  obtain ⟨k, hkk⟩ := Int.eq_ofNat_of_zero_le hk.1
  have hk9 : k < 9 := by omega
  obtain ⟨t1, t2, t3, t4⟩ := hasT ⟨k, hk9⟩
  simp only at t1 t2 t3 t4
  rw [show ((k : Nat) : Int) = c.kind from hkk.symm] at t1 t2 t3 t4
  have hm : mostV v ≤ 65536 := by unfold mostV; split <;> omega
  refine ⟨hk.1, by omega, fun hn => ?_, fun hn => ?_, fun hn => ?_, fun hn => ?_, fun hn => ?_, fun hn => ?_⟩
  · have := has_allow (hf 0 (by omega)) (by omega) (t1 (by omega)).1
    simpa [allowF] using this
  · have := has_allow (hf 1 (by omega)) (by omega) (t1 (by omega)).2.1
    simpa [allowF] using this
  · have := has_allow (hf 2 (by omega)) (by omega) (t1 (by omega)).2.2
    simp only [allowF, isKeyB, Bool.and_eq_true, decide_eq_true_eq] at this
    exact this
  · have := has_allow (hf 3 (by omega)) (by omega) (t2 (by omega))
    simp only [allowF, isKeyB, Bool.and_eq_true, decide_eq_true_eq] at this
    exact ⟨this.1.1, this.1.2, this.2⟩
  · have := has_allow (hf 4 (by omega)) (by omega) (t3 (by omega))
    simp only [allowF, decide_eq_true_eq] at this
    omega
  · have := has_allow (hf 5 (by omega)) (by omega) (t4 (by omega))
    simp only [allowF, decide_eq_true_eq] at this
    omega
end Go.Wire1
/- What a scan reads, as plain functions of the bytes. -/
namespace Go.Proofs.YtlapgnbiflcpfaaGreatDoor
open Go.RowKit Go.Wire1

/-- A scan's state: the reader's place and fault, its own fault. -/
structure St where
  k : Nat
  f : Int
  ft : Int

def gU (most : Nat) (l : List Int) (s : St) : Nat × Nat × Int :=
  if s.f = 0 then (match dec (l.drop s.k) with | .ok (x, m) => if most < x then (0, s.k, 14) else (x, s.k + m, 0) | .error i => (0, s.k, 11 + (i : Int))) else (0, s.k, s.f)
def gI (l : List Int) (s : St) : Int × Nat × Int :=
  if s.f = 0 then (match dec (l.drop s.k) with | .ok (x, m) => (unzig x, s.k + m, 0) | .error i => (0, s.k, 11 + (i : Int))) else (0, s.k, s.f)
def gB (most : Int) (l : List Int) (s : St) : Int × Nat × Int :=
  if s.f = 0 then (if l.length ≤ s.k then (0, s.k, 11) else if most < l.getD s.k 0 then (0, s.k, 14) else (l.getD s.k 0, s.k + 1, 0)) else (0, s.k, s.f)
def gT (least most : Int) (l : List Int) (s : St) : ByteArray × Nat × Int :=
  if s.f = 0 then (match dec (l.drop s.k) with
    | .ok (x, m) => if least ≤ (x : Int) ∧ (x : Int) ≤ most then (if s.k + m + x ≤ l.length then (strOfNums ((l.drop (s.k + m)).take x), s.k + (m + x), 0) else (⟨#[]⟩, s.k, 11)) else (⟨#[]⟩, s.k, 15)
    | .error i => (⟨#[]⟩, s.k, 11 + (i : Int))) else (⟨#[]⟩, s.k, s.f)

theorem meth_U (most : Nat) (l : List Int) (s : St) : Meth (.int .u64 0) (rU most l s.k) s.k s.f = (.int .u64 ((gU most l s).1 : Nat), (gU most l s).2.1, (gU most l s).2.2) := by
  unfold Meth gU rU
  by_cases h : s.f = 0
  · rw [if_pos h, if_pos h]
    cases dec (l.drop s.k) with
    | error i => rfl
    | ok p =>
      obtain ⟨x, m⟩ := p
      simp only
      by_cases h1 : most < x
      · rw [if_pos h1, if_pos h1]; rfl
      · rw [if_neg h1, if_neg h1]
  · rw [if_neg h, if_neg h]; rfl
theorem meth_I (l : List Int) (s : St) : Meth (.int .i64 0) (rI l s.k) s.k s.f = (.int .i64 (gI l s).1, (gI l s).2.1, (gI l s).2.2) := by
  unfold Meth gI rI
  by_cases h : s.f = 0
  · rw [if_pos h, if_pos h]
    cases dec (l.drop s.k) with
    | error i => rfl
    | ok p => rfl
  · rw [if_neg h, if_neg h]
theorem meth_B (most : Int) (l : List Int) (s : St) : Meth (.int .i64 0) (rB most l s.k) s.k s.f = (.int .i64 (gB most l s).1, (gB most l s).2.1, (gB most l s).2.2) := by
  unfold Meth gB rB
  by_cases h : s.f = 0
  · rw [if_pos h, if_pos h]
    by_cases h1 : l.length ≤ s.k
    · rw [if_pos h1, if_pos h1]; rfl
    · rw [if_neg h1, if_neg h1]
      by_cases h2 : most < l.getD s.k 0
      · rw [if_pos h2, if_pos h2]; rfl
      · rw [if_neg h2, if_neg h2]
  · rw [if_neg h, if_neg h]
theorem meth_T (least most : Int) (l : List Int) (s : St) : Meth (.string ⟨#[]⟩) (rT least most l s.k) s.k s.f = (.string (gT least most l s).1, (gT least most l s).2.1, (gT least most l s).2.2) := by
  unfold Meth gT rT
  by_cases h : s.f = 0
  · rw [if_pos h, if_pos h]
    cases dec (l.drop s.k) with
    | error i => rfl
    | ok p =>
      obtain ⟨x, m⟩ := p
      simp only
      by_cases h1 : least ≤ (x : Int) ∧ (x : Int) ≤ most
      · rw [if_pos h1, if_pos h1]
        by_cases h2 : s.k + m + x ≤ l.length
        · rw [if_pos h2, if_pos h2]
        · rw [if_neg h2, if_neg h2]; rfl
      · rw [if_neg h1, if_neg h1]; rfl
  · rw [if_neg h, if_neg h]
theorem gU_le (most : Nat) (l : List Int) (s : St) : (gU most l s).1 ≤ most := by
  unfold gU
  split
  · split
    · split <;> simp; omega
    · simp
  · simp

def sNum (most : Nat) (own : Int) (l : List Int) (s : St) : Nat × St := ((gU most l s).1, ⟨(gU most l s).2.1, (gU most l s).2.2, noteF own (gU most l s).2.2 s.ft⟩)
def sInt (l : List Int) (s : St) : Int × St := ((gI l s).1, ⟨(gI l s).2.1, (gI l s).2.2, noteF 14 (gI l s).2.2 s.ft⟩)
def sTxt (least most own : Int) (l : List Int) (s : St) : ByteArray × St := ((gT least most l s).1, ⟨(gT least most l s).2.1, (gT least most l s).2.2, noteF own (gT least most l s).2.2 s.ft⟩)
def sKind (v : Int) (l : List Int) (s : St) : Int × St :=
  ((gB 255 l s).1, ⟨(gB 255 l s).2.1, (gB 255 l s).2.2, if isKd v (gB 255 l s).1 then noteF 41 (gB 255 l s).2.2 s.ft else refF 41 (noteF 41 (gB 255 l s).2.2 s.ft)⟩)

/-- A scan in the state s. -/
def Scs (w : World) (g b : Nat) (sa : Option Addr) (n cap : Nat) (l : List Int) (a : Nat → Addr) (s : St) : Prop := Scn w g b sa n cap s.k s.f s.ft l a

section
variable (g b n cap : Nat) (sa : Option Addr) (l : List Int) (a : Nat → Addr)
set_option maxHeartbeats 600000 in
set_option maxRecDepth 100000 in
theorem number_scn (most : Nat) (own : Int) (s : St) (w : World) (hm : most ≤ 1073741824) (h : Scs w g b sa n cap l a s) :
    Calls Tryz.prog 105 #[.pointer (some ⟨g, 0, none⟩), .int .i64 (most : Int), .int .i64 own] w fun e w' => e = .returned (.int .i64 ((sNum most own l s).1 : Nat)) ∧ Turn g b w w' ∧ Scs w' g b sa n cap l a (sNum most own l s).2 := by
  have c0 := h.ptr
  have HS := hide h
  have hle := gU_le most l s
  clear h
  obtain ⟨x, hx⟩ : ∃ x, Hid ((sNum most own l s).1 = x) := ⟨_, rfl⟩
  obtain ⟨t, ht⟩ : ∃ t, Hid ((sNum most own l s).2 = t) := ⟨_, rfl⟩
  have hx1 : Hid ((gU most l s).1 = x) := hx
  have ht1 : Hid ((⟨(gU most l s).2.1, (gU most l s).2.2, noteF own (gU most l s).2.2 s.ft⟩ : St) = t) := ht
  rw [hx.out, ht.out]
  rw [hx1.out] at hle
  go_enter Tryz.func105, Tryz.ntmps105
  go_wp2_with fail
  refine (mUint.any most b n cap s.k s.f sa l a _ HS.out.rdr).mono ?_
  rintro e w1 ⟨rfl, T1, R1⟩
  rw [meth_U] at R1 ⊢
  have S1 := hide (HS.out.read T1 R1)
  have HT1 := hide (Turn.ofB (g := g) T1)
  simp only at S1 ⊢
  rw [hx1.out]
  clear T1 R1 c0
  go_wp2_with fail
  refine (note_any g b n cap _ _ _ sa l a own _ S1.out).mono ?_
  rintro e w2 ⟨rfl, T2, S2⟩
  have R2 : Hid (Turn g b w w2 ∧ Scs w2 g b sa n cap l a t) := ⟨HT1.out.trans (Turn.ofG T2), by rw [← ht1.out]; exact S2⟩
  clear T2 S2 S1 HT1
  go_wp2
  go_ret
  exact ⟨rfl, R2.out⟩

set_option maxHeartbeats 600000 in
set_option maxRecDepth 100000 in
theorem signed_scn (s : St) (w : World) (h : Scs w g b sa n cap l a s) :
    Calls Tryz.prog 108 #[.pointer (some ⟨g, 0, none⟩)] w fun e w' => e = .returned (.int .i64 (sInt l s).1) ∧ Turn g b w w' ∧ Scs w' g b sa n cap l a (sInt l s).2 := by
  have c0 := h.ptr
  have HS := hide h
  clear h
  obtain ⟨x, hx⟩ : ∃ x, Hid ((sInt l s).1 = x) := ⟨_, rfl⟩
  obtain ⟨t, ht⟩ : ∃ t, Hid ((sInt l s).2 = t) := ⟨_, rfl⟩
  have hx1 : Hid ((gI l s).1 = x) := hx
  have ht1 : Hid ((⟨(gI l s).2.1, (gI l s).2.2, noteF 14 (gI l s).2.2 s.ft⟩ : St) = t) := ht
  rw [hx.out, ht.out]
  go_enter Tryz.func108, Tryz.ntmps108
  go_wp2_with fail
  refine (mInt.any b n cap s.k s.f sa l a _ HS.out.rdr).mono ?_
  rintro e w1 ⟨rfl, T1, R1⟩
  rw [meth_I] at R1 ⊢
  have S1 := hide (HS.out.read T1 R1)
  have HT1 := hide (Turn.ofB (g := g) T1)
  simp only at S1 ⊢
  rw [hx1.out]
  clear T1 R1 c0
  go_wp2_with fail
  refine (note_any g b n cap _ _ _ sa l a 14 _ S1.out).mono ?_
  rintro e w2 ⟨rfl, T2, S2⟩
  have R2 : Hid (Turn g b w w2 ∧ Scs w2 g b sa n cap l a t) := ⟨HT1.out.trans (Turn.ofG T2), by rw [← ht1.out]; exact S2⟩
  clear T2 S2 S1 HT1
  go_wp2
  go_ret
  exact ⟨rfl, R2.out⟩

set_option maxHeartbeats 600000 in
set_option maxRecDepth 100000 in
theorem text_scn (least most own : Int) (s : St) (w : World) (h1 : -9223372036854775808 ≤ least) (h2 : least ≤ 9223372036854775807) (h3 : -9223372036854775808 ≤ most) (h4 : most ≤ 9223372036854775807) (h : Scs w g b sa n cap l a s) :
    Calls Tryz.prog 106 #[.pointer (some ⟨g, 0, none⟩), .int .i64 least, .int .i64 most, .int .i64 own] w fun e w' => e = .returned (.string (sTxt least most own l s).1) ∧ Turn g b w w' ∧ Scs w' g b sa n cap l a (sTxt least most own l s).2 := by
  have c0 := h.ptr
  have HS := hide h
  clear h
  obtain ⟨x, hx⟩ : ∃ x, Hid ((sTxt least most own l s).1 = x) := ⟨_, rfl⟩
  obtain ⟨t, ht⟩ : ∃ t, Hid ((sTxt least most own l s).2 = t) := ⟨_, rfl⟩
  have hx1 : Hid ((gT least most l s).1 = x) := hx
  have ht1 : Hid ((⟨(gT least most l s).2.1, (gT least most l s).2.2, noteF own (gT least most l s).2.2 s.ft⟩ : St) = t) := ht
  rw [hx.out, ht.out]
  go_enter Tryz.func106, Tryz.ntmps106
  go_wp2_with fail
  refine (mText.any least most h1 h2 h3 h4 b n cap s.k s.f sa l a _ HS.out.rdr).mono ?_
  rintro e w1 ⟨rfl, T1, R1⟩
  rw [meth_T] at R1 ⊢
  have S1 := hide (HS.out.read T1 R1)
  have HT1 := hide (Turn.ofB (g := g) T1)
  simp only at S1 ⊢
  rw [hx1.out]
  clear T1 R1 c0
  go_wp2_with fail
  refine (note_any g b n cap _ _ _ sa l a own _ S1.out).mono ?_
  rintro e w2 ⟨rfl, T2, S2⟩
  have R2 : Hid (Turn g b w w2 ∧ Scs w2 g b sa n cap l a t) := ⟨HT1.out.trans (Turn.ofG T2), by rw [← ht1.out]; exact S2⟩
  clear T2 S2 S1 HT1
  go_wp2
  go_ret
  exact ⟨rfl, R2.out⟩

set_option maxHeartbeats 600000 in
set_option maxRecDepth 100000 in
theorem kind_scn (v : Int) (s : St) (w : World) (hK : Knd w) (h : Scs w g b sa n cap l a s) :
    Calls Tryz.prog 104 #[.pointer (some ⟨g, 0, none⟩), .int .i64 v] w fun e w' => e = .returned (.int .i64 (sKind v l s).1) ∧ Turn g b w w' ∧ Scs w' g b sa n cap l a (sKind v l s).2 := by
  have c0 := h.ptr
  have hg := h.six
  have hb := h.rdr.ready.five
  have HS := hide h
  have HK := hide hK
  clear h hK
  obtain ⟨x, hx⟩ : ∃ x, Hid ((sKind v l s).1 = x) := ⟨_, rfl⟩
  obtain ⟨t, ht⟩ : ∃ t, Hid ((sKind v l s).2 = t) := ⟨_, rfl⟩
  have hx1 : Hid ((gB 255 l s).1 = x) := hx
  have ht1 : Hid ((⟨(gB 255 l s).2.1, (gB 255 l s).2.2, if isKd v (gB 255 l s).1 then noteF 41 (gB 255 l s).2.2 s.ft else refF 41 (noteF 41 (gB 255 l s).2.2 s.ft)⟩ : St) = t) := ht
  rw [hx.out, ht.out]
  rw [hx1.out] at ht1
  cases hk : isKd v x with
  | true =>
    have ht2 : Hid ((⟨(gB 255 l s).2.1, (gB 255 l s).2.2, noteF 41 (gB 255 l s).2.2 s.ft⟩ : St) = t) := by rw [← ht1.out, hk]; rfl
    go_enter Tryz.func104, Tryz.ntmps104
    go_wp2_with fail
    refine (mByte.any 255 b n cap s.k s.f sa l a _ HS.out.rdr).mono ?_
    rintro e w1 ⟨rfl, T1, R1⟩
    rw [meth_B] at R1 ⊢
    have S1 := hide (HS.out.read T1 R1)
    have HT1 := hide (Turn.ofB (g := g) T1)
    simp only at S1 ⊢
    rw [hx1.out]
    clear T1 R1 c0
    go_wp2_with fail
    refine (note_any g b n cap _ _ _ sa l a 41 _ S1.out).mono ?_
    rintro e w2 ⟨rfl, T2, S2⟩
    have R2 : Hid (Turn g b w w2 ∧ Scs w2 g b sa n cap l a t) := ⟨HT1.out.trans (Turn.ofG T2), by rw [← ht2.out]; exact S2⟩
    clear T2 S2 S1 HT1
    go_wp2_with fail
    refine (isKind_any v x _ (R2.out.1.knd HK.out hg hb)).mono ?_
    rintro e w3 ⟨rfl, rfl⟩
    rw [hk]
    clear hk
    go_wp2
    go_ret
    exact ⟨rfl, R2.out⟩
  | false =>
    have ht2 : Hid ((⟨(gB 255 l s).2.1, (gB 255 l s).2.2, refF 41 (noteF 41 (gB 255 l s).2.2 s.ft)⟩ : St) = t) := by rw [← ht1.out, hk]; rfl
    go_enter Tryz.func104, Tryz.ntmps104
    go_wp2_with fail
    refine (mByte.any 255 b n cap s.k s.f sa l a _ HS.out.rdr).mono ?_
    rintro e w1 ⟨rfl, T1, R1⟩
    rw [meth_B] at R1 ⊢
    have S1 := hide (HS.out.read T1 R1)
    have HT1 := hide (Turn.ofB (g := g) T1)
    simp only at S1 ⊢
    rw [hx1.out]
    clear T1 R1 c0
    go_wp2_with fail
    refine (note_any g b n cap _ _ _ sa l a 41 _ S1.out).mono ?_
    rintro e w2 ⟨rfl, T2, S2⟩
    have HS2 := hide S2
    have HT2 := hide (HT1.out.trans (Turn.ofG T2))
    clear T2 S2 S1 HT1
    go_wp2_with fail
    refine (isKind_any v x _ (HT2.out.knd HK.out hg hb)).mono ?_
    rintro e w3 ⟨rfl, rfl⟩
    rw [hk]
    clear hk
    go_wp2_with fail
    refine (refuse_any g b n cap _ _ _ sa l a 41 _ HS2.out).mono ?_
    rintro e w4 ⟨rfl, T4, S4⟩
    have R4 : Hid (Turn g b w w4 ∧ Scs w4 g b sa n cap l a t) := ⟨HT2.out.trans (Turn.ofG T4), by rw [← ht2.out]; exact S4⟩
    clear T4 S4
    go_wp2
    go_ret
    exact ⟨rfl, R4.out⟩
end
end Go.Proofs.YtlapgnbiflcpfaaGreatDoor
/- The contract of PutText: new memory that holds the length's form and the text's bytes. -/
namespace Go.Proofs.YtlapgnbiflcpfaaGreatDoor
open Go.RowKit Go.Wire1 Go.Lib

/-- A text's bytes, as numbers. -/
def txt (s : ByteArray) : List Int := s.data.toList.map fun b => (b.toNat : Int)
theorem txt_len (s : ByteArray) : (txt s).length = s.size := by
  show (s.data.toList.map _).length = s.data.size
  rw [List.length_map, Array.length_toList]
theorem txt_cells (s : ByteArray) : strCells s = (txt s).map (Value.int .u8) := by simp [strCells, txt]

set_option maxHeartbeats 1000000 in
set_option maxRecDepth 100000 in
theorem putText_any (s : ByteArray) (w : World) (hs : s.size ≤ 140737488351232) :
    Calls Tryz.prog 78 #[.string s] w fun e w' => ∃ v, e = .returned v ∧ w'.ownsRow w.heap.size 5 1 v (enc s.size ++ txt s).length ((enc s.size ++ txt s).map (Value.int .u8)) ∧ Below w.heap.size w w' := by
  obtain ⟨i0, hi, hz0, hz1, hz2⟩ := info_parts Tryz.info5
  have hle := enc_le s.size (by omega)
  go_enter Tryz.func78, Tryz.ntmps78
  go_wp2_with fail
  refine (putUint_any s.size _ (by omega)).mono ?_
  rintro e w1 ⟨v, rfl, hown, hbel⟩
  have hsz := hbel.size
  go_wp2_with (first
    | (at_builtin; refine wpList_append_own_string _ rfl _ _ 31 9 rfl w.heap.size 5 i0 Tryz.underlying31 Tryz.underlying9 hi hz0 hz1 hz2 _ _ _ rfl hown s rfl ?c1 ?c2 ?c3 ?_))
  case c1 => unfold maxLen; omega
  case c2 => omega
  case c3 => omega
  intro v' w2 hown' hgrow _
  have B2 : Below w.heap.size w w2 := hbel.grown hgrow hsz (fun j hj => (hown.lt j hj).1)
  rw [txt_cells, ← List.map_append] at hown'
  have e1 : (enc s.size).length + s.size = (enc s.size ++ txt s).length := by rw [List.length_append, txt_len]
  rw [e1] at hown'
  clear e1 hgrow hown hbel
  go_wp2
  go_ret
  exact ⟨_, rfl, hown', B2⟩
end Go.Proofs.YtlapgnbiflcpfaaGreatDoor
