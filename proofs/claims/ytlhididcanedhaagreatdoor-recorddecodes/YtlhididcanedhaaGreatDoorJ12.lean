/- Texts of the proof, joined. -/
import Derived.Test.YtlhididcanedhaaGreatDoorJ11
import Derived.Test.YtlhididcanedhaaGreatDoorJ07
import Derived.Lib.AppendStr
import Derived.Test.YtlhididcanedhaaGreatDoorJ03
import Derived.WalkLawsBesides
import Derived.Deep.QuietTactic
import Derived.BigQuiet
/- What a scan reads, as plain functions of the bytes. -/
namespace Go.Proofs.YtlhididcanedhaaGreatDoor
open Go.RowKit Go.Wire1

/-- A scan's state: the reader's place and fault, its own fault. -/
structure St where
  k : Nat
  f : Int
  ft : Int

def gU (most : Nat) (l : List Int) (s : St) : Nat × Nat × Int :=
  if s.f = 0 then (match dec (l.drop s.k) with | .ok (x, m) => if most < x then (0, s.k, 14) else (x, s.k + m, 0) | .error i => (0, s.k, 11 + (i : Int))) else (0, s.k, s.f)
def gI (l : List Int) (s : St) : Int × Nat × Int :=
  if s.f = 0 then (match dec (l.drop s.k) with | .ok (x, m) => (unzig x, s.k + m, 0) | .error i => (0, s.k, 11 + (i : Int))) else (0, s.k, s.f)
def gB (most : Int) (l : List Int) (s : St) : Int × Nat × Int :=
  if s.f = 0 then (if l.length ≤ s.k then (0, s.k, 11) else if most < l.getD s.k 0 then (0, s.k, 14) else (l.getD s.k 0, s.k + 1, 0)) else (0, s.k, s.f)
def gT (least most : Int) (l : List Int) (s : St) : ByteArray × Nat × Int :=
  if s.f = 0 then (match dec (l.drop s.k) with
    | .ok (x, m) => if least ≤ (x : Int) ∧ (x : Int) ≤ most then (if s.k + m + x ≤ l.length then (strOfNums ((l.drop (s.k + m)).take x), s.k + (m + x), 0) else (⟨#[]⟩, s.k, 11)) else (⟨#[]⟩, s.k, 15)
    | .error i => (⟨#[]⟩, s.k, 11 + (i : Int))) else (⟨#[]⟩, s.k, s.f)

theorem meth_U (most : Nat) (l : List Int) (s : St) : Meth (.int .u64 0) (rU most l s.k) s.k s.f = (.int .u64 ((gU most l s).1 : Nat), (gU most l s).2.1, (gU most l s).2.2) := by
  unfold Meth gU rU
  by_cases h : s.f = 0
  · rw [if_pos h, if_pos h]
    cases dec (l.drop s.k) with
    | error i => rfl
    | ok p =>
      obtain ⟨x, m⟩ := p
      simp only
      by_cases h1 : most < x
      · rw [if_pos h1, if_pos h1]; rfl
      · rw [if_neg h1, if_neg h1]
  · rw [if_neg h, if_neg h]; rfl
theorem meth_I (l : List Int) (s : St) : Meth (.int .i64 0) (rI l s.k) s.k s.f = (.int .i64 (gI l s).1, (gI l s).2.1, (gI l s).2.2) := by
  unfold Meth gI rI
  by_cases h : s.f = 0
  · rw [if_pos h, if_pos h]
    cases dec (l.drop s.k) with
    | error i => rfl
    | ok p => rfl
  · rw [if_neg h, if_neg h]
theorem meth_B (most : Int) (l : List Int) (s : St) : Meth (.int .i64 0) (rB most l s.k) s.k s.f = (.int .i64 (gB most l s).1, (gB most l s).2.1, (gB most l s).2.2) := by
  unfold Meth gB rB
  by_cases h : s.f = 0
  · rw [if_pos h, if_pos h]
    by_cases h1 : l.length ≤ s.k
    · rw [if_pos h1, if_pos h1]; rfl
    · rw [if_neg h1, if_neg h1]
      by_cases h2 : most < l.getD s.k 0
      · rw [if_pos h2, if_pos h2]; rfl
      · rw [if_neg h2, if_neg h2]
  · rw [if_neg h, if_neg h]
theorem meth_T (least most : Int) (l : List Int) (s : St) : Meth (.string ⟨#[]⟩) (rT least most l s.k) s.k s.f = (.string (gT least most l s).1, (gT least most l s).2.1, (gT least most l s).2.2) := by
  unfold Meth gT rT
  by_cases h : s.f = 0
  · rw [if_pos h, if_pos h]
    cases dec (l.drop s.k) with
    | error i => rfl
    | ok p =>
      obtain ⟨x, m⟩ := p
      simp only
      by_cases h1 : least ≤ (x : Int) ∧ (x : Int) ≤ most
      · rw [if_pos h1, if_pos h1]
        by_cases h2 : s.k + m + x ≤ l.length
        · rw [if_pos h2, if_pos h2]
        · rw [if_neg h2, if_neg h2]; rfl
      · rw [if_neg h1, if_neg h1]; rfl
  · rw [if_neg h, if_neg h]
theorem gU_le (most : Nat) (l : List Int) (s : St) : (gU most l s).1 ≤ most := by
  unfold gU
  split
  · split
    · split <;> simp; omega
    · simp
  · simp

def sNum (most : Nat) (own : Int) (l : List Int) (s : St) : Nat × St := ((gU most l s).1, ⟨(gU most l s).2.1, (gU most l s).2.2, noteF own (gU most l s).2.2 s.ft⟩)
def sInt (l : List Int) (s : St) : Int × St := ((gI l s).1, ⟨(gI l s).2.1, (gI l s).2.2, noteF 14 (gI l s).2.2 s.ft⟩)
def sTxt (least most own : Int) (l : List Int) (s : St) : ByteArray × St := ((gT least most l s).1, ⟨(gT least most l s).2.1, (gT least most l s).2.2, noteF own (gT least most l s).2.2 s.ft⟩)
def sKind (v : Int) (l : List Int) (s : St) : Int × St :=
  ((gB 255 l s).1, ⟨(gB 255 l s).2.1, (gB 255 l s).2.2, if isKd v (gB 255 l s).1 then noteF 41 (gB 255 l s).2.2 s.ft else refF 41 (noteF 41 (gB 255 l s).2.2 s.ft)⟩)

/-- A scan in the state s. -/
def Scs (w : World) (g b : Nat) (sa : Option Addr) (n cap : Nat) (l : List Int) (a : Nat → Addr) (s : St) : Prop := Scn w g b sa n cap s.k s.f s.ft l a

section
variable (g b n cap : Nat) (sa : Option Addr) (l : List Int) (a : Nat → Addr)
set_option maxHeartbeats 600000 in
set_option maxRecDepth 100000 in
theorem number_scn (most : Nat) (own : Int) (s : St) (w : World) (hm : most ≤ 1073741824) (h : Scs w g b sa n cap l a s) :
    Calls Tryz.prog 151 #[.pointer (some ⟨g, 0, none⟩), .int .i64 (most : Int), .int .i64 own] w fun e w' => e = .returned (.int .i64 ((sNum most own l s).1 : Nat)) ∧ Turn g b w w' ∧ Scs w' g b sa n cap l a (sNum most own l s).2 := by
  have c0 := h.ptr
  have HS := hide h
  have hle := gU_le most l s
  clear h
  obtain ⟨x, hx⟩ : ∃ x, Hid ((sNum most own l s).1 = x) := ⟨_, rfl⟩
  obtain ⟨t, ht⟩ : ∃ t, Hid ((sNum most own l s).2 = t) := ⟨_, rfl⟩
  have hx1 : Hid ((gU most l s).1 = x) := hx
  have ht1 : Hid ((⟨(gU most l s).2.1, (gU most l s).2.2, noteF own (gU most l s).2.2 s.ft⟩ : St) = t) := ht
  rw [hx.out, ht.out]
  rw [hx1.out] at hle
  go_enter Tryz.func151, Tryz.ntmps151
  go_wp2_with fail
  refine (mUint.any most b n cap s.k s.f sa l a _ HS.out.rdr).mono ?_
  rintro e w1 ⟨rfl, T1, R1⟩
  rw [meth_U] at R1 ⊢
  have S1 := hide (HS.out.read T1 R1)
  have HT1 := hide (Turn.ofB (g := g) T1)
  simp only at S1 ⊢
  rw [hx1.out]
  clear T1 R1 c0
  go_wp2_with fail
  refine (note_any g b n cap _ _ _ sa l a own _ S1.out).mono ?_
  rintro e w2 ⟨rfl, T2, S2⟩
  have R2 : Hid (Turn g b w w2 ∧ Scs w2 g b sa n cap l a t) := ⟨HT1.out.trans (Turn.ofG T2), by rw [← ht1.out]; exact S2⟩
  clear T2 S2 S1 HT1
  go_wp2
  go_ret
  exact ⟨rfl, R2.out⟩

set_option maxHeartbeats 600000 in
set_option maxRecDepth 100000 in
theorem signed_scn (s : St) (w : World) (h : Scs w g b sa n cap l a s) :
    Calls Tryz.prog 154 #[.pointer (some ⟨g, 0, none⟩)] w fun e w' => e = .returned (.int .i64 (sInt l s).1) ∧ Turn g b w w' ∧ Scs w' g b sa n cap l a (sInt l s).2 := by
  have c0 := h.ptr
  have HS := hide h
  clear h
  obtain ⟨x, hx⟩ : ∃ x, Hid ((sInt l s).1 = x) := ⟨_, rfl⟩
  obtain ⟨t, ht⟩ : ∃ t, Hid ((sInt l s).2 = t) := ⟨_, rfl⟩
  have hx1 : Hid ((gI l s).1 = x) := hx
  have ht1 : Hid ((⟨(gI l s).2.1, (gI l s).2.2, noteF 14 (gI l s).2.2 s.ft⟩ : St) = t) := ht
  rw [hx.out, ht.out]
  go_enter Tryz.func154, Tryz.ntmps154
  go_wp2_with fail
  refine (mInt.any b n cap s.k s.f sa l a _ HS.out.rdr).mono ?_
  rintro e w1 ⟨rfl, T1, R1⟩
  rw [meth_I] at R1 ⊢
  have S1 := hide (HS.out.read T1 R1)
  have HT1 := hide (Turn.ofB (g := g) T1)
  simp only at S1 ⊢
  rw [hx1.out]
  clear T1 R1 c0
  go_wp2_with fail
  refine (note_any g b n cap _ _ _ sa l a 14 _ S1.out).mono ?_
  rintro e w2 ⟨rfl, T2, S2⟩
  have R2 : Hid (Turn g b w w2 ∧ Scs w2 g b sa n cap l a t) := ⟨HT1.out.trans (Turn.ofG T2), by rw [← ht1.out]; exact S2⟩
  clear T2 S2 S1 HT1
  go_wp2
  go_ret
  exact ⟨rfl, R2.out⟩

set_option maxHeartbeats 600000 in
set_option maxRecDepth 100000 in
theorem text_scn (least most own : Int) (s : St) (w : World) (h1 : -9223372036854775808 ≤ least) (h2 : least ≤ 9223372036854775807) (h3 : -9223372036854775808 ≤ most) (h4 : most ≤ 9223372036854775807) (h : Scs w g b sa n cap l a s) :
    Calls Tryz.prog 152 #[.pointer (some ⟨g, 0, none⟩), .int .i64 least, .int .i64 most, .int .i64 own] w fun e w' => e = .returned (.string (sTxt least most own l s).1) ∧ Turn g b w w' ∧ Scs w' g b sa n cap l a (sTxt least most own l s).2 := by
  have c0 := h.ptr
  have HS := hide h
  clear h
  obtain ⟨x, hx⟩ : ∃ x, Hid ((sTxt least most own l s).1 = x) := ⟨_, rfl⟩
  obtain ⟨t, ht⟩ : ∃ t, Hid ((sTxt least most own l s).2 = t) := ⟨_, rfl⟩
  have hx1 : Hid ((gT least most l s).1 = x) := hx
  have ht1 : Hid ((⟨(gT least most l s).2.1, (gT least most l s).2.2, noteF own (gT least most l s).2.2 s.ft⟩ : St) = t) := ht
  rw [hx.out, ht.out]
  go_enter Tryz.func152, Tryz.ntmps152
  go_wp2_with fail
  refine (mText.any least most h1 h2 h3 h4 b n cap s.k s.f sa l a _ HS.out.rdr).mono ?_
  rintro e w1 ⟨rfl, T1, R1⟩
  rw [meth_T] at R1 ⊢
  have S1 := hide (HS.out.read T1 R1)
  have HT1 := hide (Turn.ofB (g := g) T1)
  simp only at S1 ⊢
  rw [hx1.out]
  clear T1 R1 c0
  go_wp2_with fail
  refine (note_any g b n cap _ _ _ sa l a own _ S1.out).mono ?_
  rintro e w2 ⟨rfl, T2, S2⟩
  have R2 : Hid (Turn g b w w2 ∧ Scs w2 g b sa n cap l a t) := ⟨HT1.out.trans (Turn.ofG T2), by rw [← ht1.out]; exact S2⟩
  clear T2 S2 S1 HT1
  go_wp2
  go_ret
  exact ⟨rfl, R2.out⟩

set_option maxHeartbeats 600000 in
set_option maxRecDepth 100000 in
theorem kind_scn (v : Int) (s : St) (w : World) (hK : Knd w) (h : Scs w g b sa n cap l a s) :
    Calls Tryz.prog 150 #[.pointer (some ⟨g, 0, none⟩), .int .i64 v] w fun e w' => e = .returned (.int .i64 (sKind v l s).1) ∧ Turn g b w w' ∧ Scs w' g b sa n cap l a (sKind v l s).2 := by
  have c0 := h.ptr
  have hg := h.six
  have hb := h.rdr.ready.five
  have HS := hide h
  have HK := hide hK
  clear h hK
  obtain ⟨x, hx⟩ : ∃ x, Hid ((sKind v l s).1 = x) := ⟨_, rfl⟩
  obtain ⟨t, ht⟩ : ∃ t, Hid ((sKind v l s).2 = t) := ⟨_, rfl⟩
  have hx1 : Hid ((gB 255 l s).1 = x) := hx
  have ht1 : Hid ((⟨(gB 255 l s).2.1, (gB 255 l s).2.2, if isKd v (gB 255 l s).1 then noteF 41 (gB 255 l s).2.2 s.ft else refF 41 (noteF 41 (gB 255 l s).2.2 s.ft)⟩ : St) = t) := ht
  rw [hx.out, ht.out]
  rw [hx1.out] at ht1
  cases hk : isKd v x with
  | true =>
    have ht2 : Hid ((⟨(gB 255 l s).2.1, (gB 255 l s).2.2, noteF 41 (gB 255 l s).2.2 s.ft⟩ : St) = t) := by rw [← ht1.out, hk]; rfl
    go_enter Tryz.func150, Tryz.ntmps150
    go_wp2_with fail
    refine (mByte.any 255 b n cap s.k s.f sa l a _ HS.out.rdr).mono ?_
    rintro e w1 ⟨rfl, T1, R1⟩
    rw [meth_B] at R1 ⊢
    have S1 := hide (HS.out.read T1 R1)
    have HT1 := hide (Turn.ofB (g := g) T1)
    simp only at S1 ⊢
    rw [hx1.out]
    clear T1 R1 c0
    go_wp2_with fail
    refine (note_any g b n cap _ _ _ sa l a 41 _ S1.out).mono ?_
    rintro e w2 ⟨rfl, T2, S2⟩
    have R2 : Hid (Turn g b w w2 ∧ Scs w2 g b sa n cap l a t) := ⟨HT1.out.trans (Turn.ofG T2), by rw [← ht2.out]; exact S2⟩
    clear T2 S2 S1 HT1
    go_wp2_with fail
    refine (isKind_any v x _ (R2.out.1.knd HK.out hg hb)).mono ?_
    rintro e w3 ⟨rfl, rfl⟩
    rw [hk]
    clear hk
    go_wp2
    go_ret
    exact ⟨rfl, R2.out⟩
  | false =>
    have ht2 : Hid ((⟨(gB 255 l s).2.1, (gB 255 l s).2.2, refF 41 (noteF 41 (gB 255 l s).2.2 s.ft)⟩ : St) = t) := by rw [← ht1.out, hk]; rfl
    go_enter Tryz.func150, Tryz.ntmps150
    go_wp2_with fail
    refine (mByte.any 255 b n cap s.k s.f sa l a _ HS.out.rdr).mono ?_
    rintro e w1 ⟨rfl, T1, R1⟩
    rw [meth_B] at R1 ⊢
    have S1 := hide (HS.out.read T1 R1)
    have HT1 := hide (Turn.ofB (g := g) T1)
    simp only at S1 ⊢
    rw [hx1.out]
    clear T1 R1 c0
    go_wp2_with fail
    refine (note_any g b n cap _ _ _ sa l a 41 _ S1.out).mono ?_
    rintro e w2 ⟨rfl, T2, S2⟩
    have HS2 := hide S2
    have HT2 := hide (HT1.out.trans (Turn.ofG T2))
    clear T2 S2 S1 HT1
    go_wp2_with fail
    refine (isKind_any v x _ (HT2.out.knd HK.out hg hb)).mono ?_
    rintro e w3 ⟨rfl, rfl⟩
    rw [hk]
    clear hk
    go_wp2_with fail
    refine (refuse_any g b n cap _ _ _ sa l a 41 _ HS2.out).mono ?_
    rintro e w4 ⟨rfl, T4, S4⟩
    have R4 : Hid (Turn g b w w4 ∧ Scs w4 g b sa n cap l a t) := ⟨HT2.out.trans (Turn.ofG T4), by rw [← ht2.out]; exact S4⟩
    clear T4 S4
    go_wp2
    go_ret
    exact ⟨rfl, R4.out⟩
end
end Go.Proofs.YtlhididcanedhaaGreatDoor
/- The contract of PutText: new memory that holds the length's form and the text's bytes. -/
namespace Go.Proofs.YtlhididcanedhaaGreatDoor
open Go.RowKit Go.Wire1 Go.Lib

/-- A text's bytes, as numbers. -/
def txt (s : ByteArray) : List Int := s.data.toList.map fun b => (b.toNat : Int)
end Go.Proofs.YtlhididcanedhaaGreatDoor
/- One list of bytes of our own laid onto another; the contract of package command's sharedStart. -/
namespace Go.Proofs.YtlhididcanedhaaGreatDoor
open Go.RowKit Go.Wire1

theorem tb_at (s : ByteArray) (i : Nat) (hi : i < s.size) (V : World) : (Instr.index 9 (.string s) (.int .i64 (i : Int))).run Tryz.prog V = .ok (.int .u8 ((s.data.toList.getD i 0).toNat : Int)) V := by
  rw [run_index_string V 9 s .i64 (i : Int) Tryz.underlying9, dif_pos ⟨by omega, by omega⟩]
  simp only [Int.toNat_natCast]
  rw [List.getD, List.getElem?_eq_getElem (by rw [← Lib.size_eq]; exact hi)]
  rfl

set_option maxHeartbeats 1000000 in
set_option maxRecDepth 100000 in
theorem sharedStart_any (k k2 : ByteArray) (w : World) (h1 : k.size ≤ 140737488351232) (h2 : k2.size ≤ 140737488351232) :
    Calls Tryz.prog 121 #[.string k, .string k2] w fun e w' => e = .returned (.int .i64 (shared k k2 : Nat)) ∧ ∃ q, w' = w.drewN q := by
  go_enter Tryz.func121, Tryz.ntmps121
  go_wp2_with fail
  go_loopw [5] (fun x wr => ∃ i q : Nat, x = .int .i64 (i : Int) ∧ i ≤ k.size ∧ i ≤ k2.size ∧ Hid (shared k k2 = i + shL (k.data.toList.drop i) (k2.data.toList.drop i)) ∧ wr = w.drewN q) (fun x _ => k.size - (RowKit.intOf x).toNat)
  case atStart => exact ⟨0, 0, rfl, by omega, by omega, by simp [Hid, shared], rfl⟩
  case round =>
    obtain ⟨i, q, rfl, hi, hi2, HF, rfl⟩ := hrel
    have lk : Hid (k.data.toList.length = k.size) := (Lib.size_eq k).symm
    have lk2 : Hid (k2.data.toList.length = k2.size) := (Lib.size_eq k2).symm
    by_cases g1 : i < k.size
    · by_cases g2 : i < k2.size
      · have a1 := tb_at k i g1
        have a2 := tb_at k2 i g2
        have HD := hide (shL_drop i k.data.toList k2.data.toList (by rw [lk.out]; exact g1) (by rw [lk2.out]; exact g2))
        have d1 : decide ((i : Int) < (k.size : Int)) = true := decide_eq_true (by omega)
        have d2 : decide ((i : Int) < (k2.size : Int)) = true := decide_eq_true (by omega)
        generalize k.data.toList.getD i 0 = x at *
        generalize k2.data.toList.getD i 0 = y at *
        by_cases hxy : x = y
        · subst hxy
          have HN : Hid (shared k k2 = (i + 1) + shL (k.data.toList.drop (i + 1)) (k2.data.toList.drop (i + 1))) := by
            have e1 := HF.out
            rw [HD.out, if_pos rfl] at e1
            rw [e1]; exact hide (by omega)
          have hb : (((x.toNat : Nat) : Int) == ((x.toNat : Nat) : Int)) = true := by simp
          go_wp2
          go_quiet (fail)
          go_wp2
          go_roundw
          case rel => exact ⟨i + 1, _, by go_num, by omega, by omega, HN, rfl⟩
          case measure => simp [RowKit.intOf]; omega
        · have HN : Hid (shared k k2 = i) := by
            have e1 := HF.out
            rw [HD.out, if_neg hxy] at e1
            exact e1
          have hb : (((x.toNat : Nat) : Int) == ((y.toNat : Nat) : Int)) = false := by
            rw [beq_eq_false_iff_ne]
            intro e
            exact hxy (UInt8.toNat_inj.1 (by omega))
          go_wp2
          go_quiet (fail)
          go_wp2
          go_ret
          exact ⟨by rw [HN.out]; rfl, _, by rw [World.drewN_drewN]⟩
      · have HN : Hid (shared k k2 = i) := by
          have e1 := HF.out
          rw [shL_end i _ _ (.inr (by rw [lk2.out]; omega))] at e1
          exact e1
        have d1 : decide ((i : Int) < (k.size : Int)) = true := decide_eq_true (by omega)
        have d2 : decide ((i : Int) < (k2.size : Int)) = false := decide_eq_false (by omega)
        go_wp2
        go_quiet (fail)
        go_wp2
        go_ret
        exact ⟨by rw [HN.out]; rfl, _, by rw [World.drewN_drewN]⟩
    · have HN : Hid (shared k k2 = i) := by
        have e1 := HF.out
        rw [shL_end i _ _ (.inl (by rw [lk.out]; omega))] at e1
        exact e1
      have d1 : decide ((i : Int) < (k.size : Int)) = false := decide_eq_false (by omega)
      go_wp2
      go_quiet (fail)
      go_wp2
      go_ret
      exact ⟨by rw [HN.out]; rfl, _, by rw [World.drewN_drewN]⟩
end Go.Proofs.YtlhididcanedhaaGreatDoor
/- The contract of the scan's key2. -/
namespace Go.Proofs.YtlhididcanedhaaGreatDoor
open Go.RowKit Go.Wire1

theorem gT_size (least most : Int) (l : List Int) (s : St) (hm : 0 ≤ most) : ((gT least most l s).1.size : Int) ≤ most := by
  have e0 : ((⟨#[]⟩ : ByteArray).size : Int) = 0 := rfl
  unfold gT
  split
  · split
    · rename_i x m _
      split
      · rename_i h1
        split
        · show ((strOfNums ((l.drop (s.k + m)).take x)).size : Int) ≤ most
          rw [strOfNums_size, List.length_take]; omega
        · rw [e0]; exact hm
      · rw [e0]; exact hm
    · rw [e0]; exact hm
  · rw [e0]; exact hm
def k2A (key : ByteArray) (l : List Int) (s : St) : Nat × St := sNum key.size 45 l s
def k2T (key : ByteArray) (l : List Int) (s : St) : ByteArray × St := sTxt (1 - ((k2A key l s).1 : Int)) (64 - ((k2A key l s).1 : Int)) 45 l (k2A key l s).2
def k2K (key : ByteArray) (l : List Int) (s : St) : ByteArray := key.extract 0 (k2A key l s).1 ++ (k2T key l s).1
def k2F1 (key : ByteArray) (l : List Int) (s : St) : Int := if (k2A key l s).1 < shared key (k2K key l s) then refF 13 (k2T key l s).2.ft else (k2T key l s).2.ft
def k2F (kind : Int) (key : ByteArray) (l : List Int) (s : St) : Int := if isPairB kind key (k2K key l s) then k2F1 key l s else refF 45 (k2F1 key l s)
def sKey2 (kind : Int) (key : ByteArray) (l : List Int) (s : St) : ByteArray × St := (k2K key l s, ⟨(k2T key l s).2.k, (k2T key l s).2.f, k2F kind key l s⟩)

set_option maxHeartbeats 2000000 in
set_option maxRecDepth 100000 in
theorem key2_scn (g b n cap : Nat) (sa : Option Addr) (l : List Int) (a : Nat → Addr) (kind : Int) (key : ByteArray) (s : St) (w : World) (hk : key.size ≤ 64) (h : Scs w g b sa n cap l a s) :
    Calls Tryz.prog 153 #[.pointer (some ⟨g, 0, none⟩), .int .i64 kind, .string key] w fun e w' => e = .returned (.string (sKey2 kind key l s).1) ∧ Turn g b w w' ∧ Scs w' g b sa n cap l a (sKey2 kind key l s).2 := by
  have HS := hide h
  clear h
  obtain ⟨x, hx⟩ : ∃ x, Hid ((k2A key l s).1 = x) := ⟨_, rfl⟩
  have hxl : x ≤ key.size := by rw [← hx.out]; exact gU_le _ _ _
  obtain ⟨s1, hs1⟩ : ∃ s1, Hid ((k2A key l s).2 = s1) := ⟨_, rfl⟩
  have eT : Hid (k2T key l s = sTxt (1 - (x : Int)) (64 - (x : Int)) 45 l s1) := by unfold k2T; rw [hx.out, hs1.out]; rfl
  obtain ⟨t, htt⟩ : ∃ t, Hid ((sTxt (1 - (x : Int)) (64 - (x : Int)) 45 l s1).1 = t) := ⟨_, rfl⟩
  have htl : (t.size : Int) ≤ 64 - (x : Int) := by rw [← htt.out]; exact gT_size _ _ _ _ (by omega)
  obtain ⟨s2, hs2⟩ : ∃ s2, Hid ((sTxt (1 - (x : Int)) (64 - (x : Int)) 45 l s1).2 = s2) := ⟨_, rfl⟩
  obtain ⟨ke, hke⟩ : ∃ ke, Hid (key.extract 0 x = ke) := ⟨_, rfl⟩
  have hkl : ke.size = x := by rw [← hke.out, ByteArray.size_extract]; omega
  obtain ⟨k2, hk2⟩ : ∃ k2, Hid (ke ++ t = k2) := ⟨_, rfl⟩
  have hk2l : k2.size ≤ 64 := by rw [← hk2.out, ByteArray.size_append]; omega
  have eK : Hid (k2K key l s = k2) := by unfold k2K; rw [hx.out, eT.out, htt.out, hke.out, hk2.out]; rfl
  have hsl : ∀ V : World, (Instr.slice 9 (.string key) none (some (.int .i64 (x : Int))) none).run Tryz.prog V = .ok (.string ke) V := fun V => by
    have := run_slice_string_h V 9 key Tryz.underlying9 .i64 (x : Int) (by omega) (by omega)
    rw [← hke.out]; simpa using this
  have hadd : ∀ V : World, (Op.stringOp .add ke t).run Tryz.prog V = .ok (.string k2) V := fun V => by
    rw [← hk2.out]; exact run_string_add_sum V ke t (by omega)
  obtain ⟨sh, hsh⟩ : ∃ sh, Hid (shared key k2 = sh) := ⟨_, rfl⟩
  have hshl : sh ≤ 64 := by rw [← hsh.out]; have := shared_le key k2; omega
  have e1 : Hid (k2F1 key l s = if x < sh then refF 13 s2.ft else s2.ft) := by unfold k2F1; rw [eK.out, hsh.out, hx.out, eT.out, hs2.out]; rfl
  obtain ⟨z, hz⟩ : ∃ z, Hid ((sKey2 kind key l s).2 = z) := ⟨_, rfl⟩
  have ez : Hid (z = ⟨s2.k, s2.f, if isPairB kind key k2 then k2F1 key l s else refF 45 (k2F1 key l s)⟩) := by
    rw [← hz.out]; unfold sKey2 k2F; rw [eT.out, hs2.out, eK.out]; rfl
  have er : Hid ((sKey2 kind key l s).1 = k2) := eK
  rw [er.out, hz.out]
  rw [e1.out] at ez
  have W1 : Hid (IntKind.i64.wrap (1 - (x : Int)) = 1 - (x : Int)) := by rw [Hid, IntKind.wrap_i64]; omega
  have W2 : Hid (IntKind.i64.wrap (64 - (x : Int)) = 64 - (x : Int)) := by rw [Hid, IntKind.wrap_i64]; omega
  clear hkl
  by_cases hgt : x < sh
  · cases hp : isPairB kind key k2 with
    | true =>
      have e2 : Hid (z = ⟨s2.k, s2.f, refF 13 s2.ft⟩) := by rw [ez.out, hp, if_pos hgt]; rfl
      have d1 : decide ((x : Int) < (sh : Int)) = true := decide_eq_true (by omega)
      clear ez d1
      go_enter Tryz.func153, Tryz.ntmps153
      go_wp2_with fail
      refine (number_scn g b n cap sa l a key.size 45 s _ (by omega) HS.out).mono ?_
      rintro e w1 ⟨rfl, T1, S1⟩
      rw [show (sNum key.size 45 l s).1 = x from hx.out]
      rw [show (sNum key.size 45 l s).2 = s1 from hs1.out] at S1
      have HT1 := hide T1
      have HS1 := hide S1
      clear T1 S1
      go_wp2
      go_region_held3 (fun _ => True) (first | trivial) (first | (go_at_call 152; rw [W1.out, W2.out]; refine (text_scn g b n cap sa l a (1 - (x : Int)) (64 - (x : Int)) 45 s1 _ (by omega) (by omega) (by omega) (by omega) (by exact HS1.out.drew)).mono ?_; rintro e w2 ⟨rfl, T2, S2⟩; rw [htt.out]))
      rw [hs2.out] at S2
      have HT2 : Hid (Turn g b w w2) := (HT1.out.trans (z := w1.drew) ⟨rfl, rfl, rfl, Nat.le_refl _, fun _ _ _ _ => rfl⟩).trans T2
      have HS2 := hide S2
      clear T2 S2 HS1 HT1
      go_wp2_with fail
      refine (sharedStart_any key k2 _ (by omega) (by omega)).mono ?_
      rintro e w3 ⟨rfl, q3, hq3⟩
      rw [hsh.out]
      have HT3 : Hid (Turn g b w w3) := by rw [hq3]; exact ⟨HT2.out.os, HT2.out.tape, HT2.out.output, HT2.out.size, HT2.out.block⟩
      have HS3 : Hid (Scs w3 g b sa n cap l a s2) := by rw [hq3]; exact HS2.out.drewN q3
      clear hq3 HT2 HS2
      go_wp2_with fail
      refine (refuse_any g b n cap _ _ _ sa l a 13 _ HS3.out).mono ?_
      rintro e w4 ⟨rfl, T4, S4⟩
      have HT4 := hide (HT3.out.trans (Turn.ofG T4))
      have HS4 := hide S4
      clear T4 S4 HT3 HS3
      go_wp2_with fail
      refine (isPair_any kind key k2 _).mono ?_
      rintro e w5 ⟨rfl, rfl⟩
      rw [hp]
      clear hp
      have R : Hid (Scs w4 g b sa n cap l a z) := by rw [e2.out]; exact HS4.out
      go_wp2
      go_ret
      exact ⟨rfl, HT4.out, R.out⟩
    | false =>
      have e2 : Hid (z = ⟨s2.k, s2.f, refF 45 (refF 13 s2.ft)⟩) := by rw [ez.out, hp, if_pos hgt]; rfl
      have d1 : decide ((x : Int) < (sh : Int)) = true := decide_eq_true (by omega)
      clear ez d1
      go_enter Tryz.func153, Tryz.ntmps153
      go_wp2_with fail
      refine (number_scn g b n cap sa l a key.size 45 s _ (by omega) HS.out).mono ?_
      rintro e w1 ⟨rfl, T1, S1⟩
      rw [show (sNum key.size 45 l s).1 = x from hx.out]
      rw [show (sNum key.size 45 l s).2 = s1 from hs1.out] at S1
      have HT1 := hide T1
      have HS1 := hide S1
      clear T1 S1
      go_wp2
      go_region_held3 (fun _ => True) (first | trivial) (first | (go_at_call 152; rw [W1.out, W2.out]; refine (text_scn g b n cap sa l a (1 - (x : Int)) (64 - (x : Int)) 45 s1 _ (by omega) (by omega) (by omega) (by omega) (by exact HS1.out.drew)).mono ?_; rintro e w2 ⟨rfl, T2, S2⟩; rw [htt.out]))
      rw [hs2.out] at S2
      have HT2 : Hid (Turn g b w w2) := (HT1.out.trans (z := w1.drew) ⟨rfl, rfl, rfl, Nat.le_refl _, fun _ _ _ _ => rfl⟩).trans T2
      have HS2 := hide S2
      clear T2 S2 HS1 HT1
      go_wp2_with fail
      refine (sharedStart_any key k2 _ (by omega) (by omega)).mono ?_
      rintro e w3 ⟨rfl, q3, hq3⟩
      rw [hsh.out]
      have HT3 : Hid (Turn g b w w3) := by rw [hq3]; exact ⟨HT2.out.os, HT2.out.tape, HT2.out.output, HT2.out.size, HT2.out.block⟩
      have HS3 : Hid (Scs w3 g b sa n cap l a s2) := by rw [hq3]; exact HS2.out.drewN q3
      clear hq3 HT2 HS2
      go_wp2_with fail
      refine (refuse_any g b n cap _ _ _ sa l a 13 _ HS3.out).mono ?_
      rintro e w4 ⟨rfl, T4, S4⟩
      have HT4 := hide (HT3.out.trans (Turn.ofG T4))
      have HS4 := hide S4
      clear T4 S4 HT3 HS3
      go_wp2_with fail
      refine (isPair_any kind key k2 _).mono ?_
      rintro e w5 ⟨rfl, rfl⟩
      rw [hp]
      clear hp
      go_wp2_with fail
      refine (refuse_any g b n cap _ _ _ sa l a 45 _ HS4.out).mono ?_
      rintro e w6 ⟨rfl, T6, S6⟩
      have HT6 := hide (HT4.out.trans (Turn.ofG T6))
      have HS6 : Hid (Scs w6 g b sa n cap l a z) := by rw [e2.out]; exact S6
      clear T6 S6 HT4 HS4
      go_wp2
      go_ret
      exact ⟨rfl, HT6.out, HS6.out⟩
  · cases hp : isPairB kind key k2 with
    | true =>
      have e2 : Hid (z = ⟨s2.k, s2.f, s2.ft⟩) := by rw [ez.out, hp, if_neg hgt]; rfl
      have d1 : decide ((x : Int) < (sh : Int)) = false := decide_eq_false (by omega)
      clear ez d1
      go_enter Tryz.func153, Tryz.ntmps153
      go_wp2_with fail
      refine (number_scn g b n cap sa l a key.size 45 s _ (by omega) HS.out).mono ?_
      rintro e w1 ⟨rfl, T1, S1⟩
      rw [show (sNum key.size 45 l s).1 = x from hx.out]
      rw [show (sNum key.size 45 l s).2 = s1 from hs1.out] at S1
      have HT1 := hide T1
      have HS1 := hide S1
      clear T1 S1
      go_wp2
      go_region_held3 (fun _ => True) (first | trivial) (first | (go_at_call 152; rw [W1.out, W2.out]; refine (text_scn g b n cap sa l a (1 - (x : Int)) (64 - (x : Int)) 45 s1 _ (by omega) (by omega) (by omega) (by omega) (by exact HS1.out.drew)).mono ?_; rintro e w2 ⟨rfl, T2, S2⟩; rw [htt.out]))
      rw [hs2.out] at S2
      have HT2 : Hid (Turn g b w w2) := (HT1.out.trans (z := w1.drew) ⟨rfl, rfl, rfl, Nat.le_refl _, fun _ _ _ _ => rfl⟩).trans T2
      have HS2 := hide S2
      clear T2 S2 HS1 HT1
      go_wp2_with fail
      refine (sharedStart_any key k2 _ (by omega) (by omega)).mono ?_
      rintro e w3 ⟨rfl, q3, hq3⟩
      rw [hsh.out]
      have HT3 : Hid (Turn g b w w3) := by rw [hq3]; exact ⟨HT2.out.os, HT2.out.tape, HT2.out.output, HT2.out.size, HT2.out.block⟩
      have HS3 : Hid (Scs w3 g b sa n cap l a s2) := by rw [hq3]; exact HS2.out.drewN q3
      clear hq3 HT2 HS2
      go_wp2_with fail
      refine (isPair_any kind key k2 _).mono ?_
      rintro e w5 ⟨rfl, rfl⟩
      rw [hp]
      clear hp
      have R : Hid (Scs w3 g b sa n cap l a z) := by rw [e2.out]; exact HS3.out
      go_wp2
      go_ret
      exact ⟨rfl, HT3.out, R.out⟩
    | false =>
      have e2 : Hid (z = ⟨s2.k, s2.f, refF 45 (s2.ft)⟩) := by rw [ez.out, hp, if_neg hgt]; rfl
      have d1 : decide ((x : Int) < (sh : Int)) = false := decide_eq_false (by omega)
      clear ez d1
      go_enter Tryz.func153, Tryz.ntmps153
      go_wp2_with fail
      refine (number_scn g b n cap sa l a key.size 45 s _ (by omega) HS.out).mono ?_
      rintro e w1 ⟨rfl, T1, S1⟩
      rw [show (sNum key.size 45 l s).1 = x from hx.out]
      rw [show (sNum key.size 45 l s).2 = s1 from hs1.out] at S1
      have HT1 := hide T1
      have HS1 := hide S1
      clear T1 S1
      go_wp2
      go_region_held3 (fun _ => True) (first | trivial) (first | (go_at_call 152; rw [W1.out, W2.out]; refine (text_scn g b n cap sa l a (1 - (x : Int)) (64 - (x : Int)) 45 s1 _ (by omega) (by omega) (by omega) (by omega) (by exact HS1.out.drew)).mono ?_; rintro e w2 ⟨rfl, T2, S2⟩; rw [htt.out]))
      rw [hs2.out] at S2
      have HT2 : Hid (Turn g b w w2) := (HT1.out.trans (z := w1.drew) ⟨rfl, rfl, rfl, Nat.le_refl _, fun _ _ _ _ => rfl⟩).trans T2
      have HS2 := hide S2
      clear T2 S2 HS1 HT1
      go_wp2_with fail
      refine (sharedStart_any key k2 _ (by omega) (by omega)).mono ?_
      rintro e w3 ⟨rfl, q3, hq3⟩
      rw [hsh.out]
      have HT3 : Hid (Turn g b w w3) := by rw [hq3]; exact ⟨HT2.out.os, HT2.out.tape, HT2.out.output, HT2.out.size, HT2.out.block⟩
      have HS3 : Hid (Scs w3 g b sa n cap l a s2) := by rw [hq3]; exact HS2.out.drewN q3
      clear hq3 HT2 HS2
      go_wp2_with fail
      refine (isPair_any kind key k2 _).mono ?_
      rintro e w5 ⟨rfl, rfl⟩
      rw [hp]
      clear hp
      go_wp2_with fail
      refine (refuse_any g b n cap _ _ _ sa l a 45 _ HS3.out).mono ?_
      rintro e w6 ⟨rfl, T6, S6⟩
      have HT6 := hide (HT3.out.trans (Turn.ofG T6))
      have HS6 : Hid (Scs w6 g b sa n cap l a z) := by rw [e2.out]; exact S6
      clear T6 S6 HT3 HS3
      go_wp2
      go_ret
      exact ⟨rfl, HT6.out, HS6.out⟩
end Go.Proofs.YtlhididcanedhaaGreatDoor
