/- Texts of the proof, joined. -/
import Derived.Test.YtpjdgbhjjknopaaDoorJ22
import Derived.Test.YtpjdgbhjjknopaaDoorJ15
/- What a scan reads, as plain functions of the bytes. -/
namespace Go.Proofs.YtpjdgbhjjknopaaDoor
open Go.RowKit Go.Wire1

/-- A scan's state: the reader's place and fault, its own fault. -/
structure St where
  k : Nat
  f : Int
  ft : Int

def gU (most : Nat) (l : List Int) (s : St) : Nat × Nat × Int :=
  if s.f = 0 then (match dec (l.drop s.k) with | .ok (x, m) => if most < x then (0, s.k, 14) else (x, s.k + m, 0) | .error i => (0, s.k, 11 + (i : Int))) else (0, s.k, s.f)
def gI (l : List Int) (s : St) : Int × Nat × Int :=
  if s.f = 0 then (match dec (l.drop s.k) with | .ok (x, m) => (unzig x, s.k + m, 0) | .error i => (0, s.k, 11 + (i : Int))) else (0, s.k, s.f)
def gB (most : Int) (l : List Int) (s : St) : Int × Nat × Int :=
  if s.f = 0 then (if l.length ≤ s.k then (0, s.k, 11) else if most < l.getD s.k 0 then (0, s.k, 14) else (l.getD s.k 0, s.k + 1, 0)) else (0, s.k, s.f)
def gT (least most : Int) (l : List Int) (s : St) : ByteArray × Nat × Int :=
  if s.f = 0 then (match dec (l.drop s.k) with
    | .ok (x, m) => if least ≤ (x : Int) ∧ (x : Int) ≤ most then (if s.k + m + x ≤ l.length then (strOfNums ((l.drop (s.k + m)).take x), s.k + (m + x), 0) else (⟨#[]⟩, s.k, 11)) else (⟨#[]⟩, s.k, 15)
    | .error i => (⟨#[]⟩, s.k, 11 + (i : Int))) else (⟨#[]⟩, s.k, s.f)

theorem meth_U (most : Nat) (l : List Int) (s : St) : Meth (.int .u64 0) (rU most l s.k) s.k s.f = (.int .u64 ((gU most l s).1 : Nat), (gU most l s).2.1, (gU most l s).2.2) := by
  unfold Meth gU rU
  by_cases h : s.f = 0
  · rw [if_pos h, if_pos h]
    cases dec (l.drop s.k) with
    | error i => rfl
    | ok p =>
      obtain ⟨x, m⟩ := p
      simp only
      by_cases h1 : most < x
      · rw [if_pos h1, if_pos h1]; rfl
      · rw [if_neg h1, if_neg h1]
  · rw [if_neg h, if_neg h]; rfl
theorem meth_I (l : List Int) (s : St) : Meth (.int .i64 0) (rI l s.k) s.k s.f = (.int .i64 (gI l s).1, (gI l s).2.1, (gI l s).2.2) := by
  unfold Meth gI rI
  by_cases h : s.f = 0
  · rw [if_pos h, if_pos h]
    cases dec (l.drop s.k) with
    | error i => rfl
    | ok p => rfl
  · rw [if_neg h, if_neg h]
theorem meth_B (most : Int) (l : List Int) (s : St) : Meth (.int .i64 0) (rB most l s.k) s.k s.f = (.int .i64 (gB most l s).1, (gB most l s).2.1, (gB most l s).2.2) := by
  unfold Meth gB rB
  by_cases h : s.f = 0
  · rw [if_pos h, if_pos h]
    by_cases h1 : l.length ≤ s.k
    · rw [if_pos h1, if_pos h1]; rfl
    · rw [if_neg h1, if_neg h1]
      by_cases h2 : most < l.getD s.k 0
      · rw [if_pos h2, if_pos h2]; rfl
      · rw [if_neg h2, if_neg h2]
  · rw [if_neg h, if_neg h]
theorem meth_T (least most : Int) (l : List Int) (s : St) : Meth (.string ⟨#[]⟩) (rT least most l s.k) s.k s.f = (.string (gT least most l s).1, (gT least most l s).2.1, (gT least most l s).2.2) := by
  unfold Meth gT rT
  by_cases h : s.f = 0
  · rw [if_pos h, if_pos h]
    cases dec (l.drop s.k) with
    | error i => rfl
    | ok p =>
      obtain ⟨x, m⟩ := p
      simp only
      by_cases h1 : least ≤ (x : Int) ∧ (x : Int) ≤ most
      · rw [if_pos h1, if_pos h1]
        by_cases h2 : s.k + m + x ≤ l.length
        · rw [if_pos h2, if_pos h2]
        · rw [if_neg h2, if_neg h2]; rfl
      · rw [if_neg h1, if_neg h1]; rfl
  · rw [if_neg h, if_neg h]
theorem gU_le (most : Nat) (l : List Int) (s : St) : (gU most l s).1 ≤ most := by
  unfold gU
  split
  · split
    · split <;> simp; omega
    · simp
  · simp

def sNum (most : Nat) (own : Int) (l : List Int) (s : St) : Nat × St := ((gU most l s).1, ⟨(gU most l s).2.1, (gU most l s).2.2, noteF own (gU most l s).2.2 s.ft⟩)
def sInt (l : List Int) (s : St) : Int × St := ((gI l s).1, ⟨(gI l s).2.1, (gI l s).2.2, noteF 14 (gI l s).2.2 s.ft⟩)
def sTxt (least most own : Int) (l : List Int) (s : St) : ByteArray × St := ((gT least most l s).1, ⟨(gT least most l s).2.1, (gT least most l s).2.2, noteF own (gT least most l s).2.2 s.ft⟩)
def sKind (v : Int) (l : List Int) (s : St) : Int × St :=
  ((gB 255 l s).1, ⟨(gB 255 l s).2.1, (gB 255 l s).2.2, if isKd v (gB 255 l s).1 then noteF 41 (gB 255 l s).2.2 s.ft else refF 41 (noteF 41 (gB 255 l s).2.2 s.ft)⟩)

/-- A scan in the state s. -/
def Scs (w : World) (g b : Nat) (sa : Option Addr) (n cap : Nat) (l : List Int) (a : Nat → Addr) (s : St) : Prop := Scn w g b sa n cap s.k s.f s.ft l a

section
variable (g b n cap : Nat) (sa : Option Addr) (l : List Int) (a : Nat → Addr)
set_option maxHeartbeats 600000 in
set_option maxRecDepth 100000 in
theorem number_scn (most : Nat) (own : Int) (s : St) (w : World) (hm : most ≤ 1073741824) (h : Scs w g b sa n cap l a s) :
    Calls Tryd.prog 21 #[.pointer (some ⟨g, 0, none⟩), .int .i64 (most : Int), .int .i64 own] w fun e w' => e = .returned (.int .i64 ((sNum most own l s).1 : Nat)) ∧ Turn g b w w' ∧ Scs w' g b sa n cap l a (sNum most own l s).2 := by
  have c0 := h.ptr
  have HS := hide h
  have hle := gU_le most l s
  clear h
  obtain ⟨x, hx⟩ : ∃ x, Hid ((sNum most own l s).1 = x) := ⟨_, rfl⟩
  obtain ⟨t, ht⟩ : ∃ t, Hid ((sNum most own l s).2 = t) := ⟨_, rfl⟩
  have hx1 : Hid ((gU most l s).1 = x) := hx
  have ht1 : Hid ((⟨(gU most l s).2.1, (gU most l s).2.2, noteF own (gU most l s).2.2 s.ft⟩ : St) = t) := ht
  rw [hx.out, ht.out]
  rw [hx1.out] at hle
  go_enter Tryd.func21, Tryd.ntmps21
  go_wp2_with fail
  refine (mUint.any most b n cap s.k s.f sa l a _ HS.out.rdr).mono ?_
  rintro e w1 ⟨rfl, T1, R1⟩
  rw [meth_U] at R1 ⊢
  have S1 := hide (HS.out.read T1 R1)
  have HT1 := hide (Turn.ofB (g := g) T1)
  simp only at S1 ⊢
  rw [hx1.out]
  clear T1 R1 c0
  go_wp2_with fail
  refine (note_any g b n cap _ _ _ sa l a own _ S1.out).mono ?_
  rintro e w2 ⟨rfl, T2, S2⟩
  have R2 : Hid (Turn g b w w2 ∧ Scs w2 g b sa n cap l a t) := ⟨HT1.out.trans (Turn.ofG T2), by rw [← ht1.out]; exact S2⟩
  clear T2 S2 S1 HT1
  go_wp2
  go_ret
  exact ⟨rfl, R2.out⟩

set_option maxHeartbeats 600000 in
set_option maxRecDepth 100000 in
theorem signed_scn (s : St) (w : World) (h : Scs w g b sa n cap l a s) :
    Calls Tryd.prog 25 #[.pointer (some ⟨g, 0, none⟩)] w fun e w' => e = .returned (.int .i64 (sInt l s).1) ∧ Turn g b w w' ∧ Scs w' g b sa n cap l a (sInt l s).2 := by
  have c0 := h.ptr
  have HS := hide h
  clear h
  obtain ⟨x, hx⟩ : ∃ x, Hid ((sInt l s).1 = x) := ⟨_, rfl⟩
  obtain ⟨t, ht⟩ : ∃ t, Hid ((sInt l s).2 = t) := ⟨_, rfl⟩
  have hx1 : Hid ((gI l s).1 = x) := hx
  have ht1 : Hid ((⟨(gI l s).2.1, (gI l s).2.2, noteF 14 (gI l s).2.2 s.ft⟩ : St) = t) := ht
  rw [hx.out, ht.out]
  go_enter Tryd.func25, Tryd.ntmps25
  go_wp2_with fail
  refine (mInt.any b n cap s.k s.f sa l a _ HS.out.rdr).mono ?_
  rintro e w1 ⟨rfl, T1, R1⟩
  rw [meth_I] at R1 ⊢
  have S1 := hide (HS.out.read T1 R1)
  have HT1 := hide (Turn.ofB (g := g) T1)
  simp only at S1 ⊢
  rw [hx1.out]
  clear T1 R1 c0
  go_wp2_with fail
  refine (note_any g b n cap _ _ _ sa l a 14 _ S1.out).mono ?_
  rintro e w2 ⟨rfl, T2, S2⟩
  have R2 : Hid (Turn g b w w2 ∧ Scs w2 g b sa n cap l a t) := ⟨HT1.out.trans (Turn.ofG T2), by rw [← ht1.out]; exact S2⟩
  clear T2 S2 S1 HT1
  go_wp2
  go_ret
  exact ⟨rfl, R2.out⟩

set_option maxHeartbeats 600000 in
set_option maxRecDepth 100000 in
theorem text_scn (least most own : Int) (s : St) (w : World) (h1 : -9223372036854775808 ≤ least) (h2 : least ≤ 9223372036854775807) (h3 : -9223372036854775808 ≤ most) (h4 : most ≤ 9223372036854775807) (h : Scs w g b sa n cap l a s) :
    Calls Tryd.prog 22 #[.pointer (some ⟨g, 0, none⟩), .int .i64 least, .int .i64 most, .int .i64 own] w fun e w' => e = .returned (.string (sTxt least most own l s).1) ∧ Turn g b w w' ∧ Scs w' g b sa n cap l a (sTxt least most own l s).2 := by
  have c0 := h.ptr
  have HS := hide h
  clear h
  obtain ⟨x, hx⟩ : ∃ x, Hid ((sTxt least most own l s).1 = x) := ⟨_, rfl⟩
  obtain ⟨t, ht⟩ : ∃ t, Hid ((sTxt least most own l s).2 = t) := ⟨_, rfl⟩
  have hx1 : Hid ((gT least most l s).1 = x) := hx
  have ht1 : Hid ((⟨(gT least most l s).2.1, (gT least most l s).2.2, noteF own (gT least most l s).2.2 s.ft⟩ : St) = t) := ht
  rw [hx.out, ht.out]
  go_enter Tryd.func22, Tryd.ntmps22
  go_wp2_with fail
  refine (mText.any least most h1 h2 h3 h4 b n cap s.k s.f sa l a _ HS.out.rdr).mono ?_
  rintro e w1 ⟨rfl, T1, R1⟩
  rw [meth_T] at R1 ⊢
  have S1 := hide (HS.out.read T1 R1)
  have HT1 := hide (Turn.ofB (g := g) T1)
  simp only at S1 ⊢
  rw [hx1.out]
  clear T1 R1 c0
  go_wp2_with fail
  refine (note_any g b n cap _ _ _ sa l a own _ S1.out).mono ?_
  rintro e w2 ⟨rfl, T2, S2⟩
  have R2 : Hid (Turn g b w w2 ∧ Scs w2 g b sa n cap l a t) := ⟨HT1.out.trans (Turn.ofG T2), by rw [← ht1.out]; exact S2⟩
  clear T2 S2 S1 HT1
  go_wp2
  go_ret
  exact ⟨rfl, R2.out⟩

set_option maxHeartbeats 600000 in
set_option maxRecDepth 100000 in
theorem kind_scn (v : Int) (s : St) (w : World) (hK : Knd w) (h : Scs w g b sa n cap l a s) :
    Calls Tryd.prog 20 #[.pointer (some ⟨g, 0, none⟩), .int .i64 v] w fun e w' => e = .returned (.int .i64 (sKind v l s).1) ∧ Turn g b w w' ∧ Scs w' g b sa n cap l a (sKind v l s).2 := by
  have c0 := h.ptr
  have hg := h.six
  have hb := h.rdr.ready.five
  have HS := hide h
  have HK := hide hK
  clear h hK
  obtain ⟨x, hx⟩ : ∃ x, Hid ((sKind v l s).1 = x) := ⟨_, rfl⟩
  obtain ⟨t, ht⟩ : ∃ t, Hid ((sKind v l s).2 = t) := ⟨_, rfl⟩
  have hx1 : Hid ((gB 255 l s).1 = x) := hx
  have ht1 : Hid ((⟨(gB 255 l s).2.1, (gB 255 l s).2.2, if isKd v (gB 255 l s).1 then noteF 41 (gB 255 l s).2.2 s.ft else refF 41 (noteF 41 (gB 255 l s).2.2 s.ft)⟩ : St) = t) := ht
  rw [hx.out, ht.out]
  rw [hx1.out] at ht1
  cases hk : isKd v x with
  | true =>
    have ht2 : Hid ((⟨(gB 255 l s).2.1, (gB 255 l s).2.2, noteF 41 (gB 255 l s).2.2 s.ft⟩ : St) = t) := by rw [← ht1.out, hk]; rfl
    go_enter Tryd.func20, Tryd.ntmps20
    go_wp2_with fail
    refine (mByte.any 255 b n cap s.k s.f sa l a _ HS.out.rdr).mono ?_
    rintro e w1 ⟨rfl, T1, R1⟩
    rw [meth_B] at R1 ⊢
    have S1 := hide (HS.out.read T1 R1)
    have HT1 := hide (Turn.ofB (g := g) T1)
    simp only at S1 ⊢
    rw [hx1.out]
    clear T1 R1 c0
    go_wp2_with fail
    refine (note_any g b n cap _ _ _ sa l a 41 _ S1.out).mono ?_
    rintro e w2 ⟨rfl, T2, S2⟩
    have R2 : Hid (Turn g b w w2 ∧ Scs w2 g b sa n cap l a t) := ⟨HT1.out.trans (Turn.ofG T2), by rw [← ht2.out]; exact S2⟩
    clear T2 S2 S1 HT1
    go_wp2_with fail
    refine (isKind_any v x _ (R2.out.1.knd HK.out hg hb)).mono ?_
    rintro e w3 ⟨rfl, rfl⟩
    rw [hk]
    clear hk
    go_wp2
    go_ret
    exact ⟨rfl, R2.out⟩
  | false =>
    have ht2 : Hid ((⟨(gB 255 l s).2.1, (gB 255 l s).2.2, refF 41 (noteF 41 (gB 255 l s).2.2 s.ft)⟩ : St) = t) := by rw [← ht1.out, hk]; rfl
    go_enter Tryd.func20, Tryd.ntmps20
    go_wp2_with fail
    refine (mByte.any 255 b n cap s.k s.f sa l a _ HS.out.rdr).mono ?_
    rintro e w1 ⟨rfl, T1, R1⟩
    rw [meth_B] at R1 ⊢
    have S1 := hide (HS.out.read T1 R1)
    have HT1 := hide (Turn.ofB (g := g) T1)
    simp only at S1 ⊢
    rw [hx1.out]
    clear T1 R1 c0
    go_wp2_with fail
    refine (note_any g b n cap _ _ _ sa l a 41 _ S1.out).mono ?_
    rintro e w2 ⟨rfl, T2, S2⟩
    have HS2 := hide S2
    have HT2 := hide (HT1.out.trans (Turn.ofG T2))
    clear T2 S2 S1 HT1
    go_wp2_with fail
    refine (isKind_any v x _ (HT2.out.knd HK.out hg hb)).mono ?_
    rintro e w3 ⟨rfl, rfl⟩
    rw [hk]
    clear hk
    go_wp2_with fail
    refine (refuse_any g b n cap _ _ _ sa l a 41 _ HS2.out).mono ?_
    rintro e w4 ⟨rfl, T4, S4⟩
    have R4 : Hid (Turn g b w w4 ∧ Scs w4 g b sa n cap l a t) := ⟨HT2.out.trans (Turn.ofG T4), by rw [← ht2.out]; exact S4⟩
    clear T4 S4
    go_wp2
    go_ret
    exact ⟨rfl, R4.out⟩
end
end Go.Proofs.YtpjdgbhjjknopaaDoor
