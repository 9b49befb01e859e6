/- Texts of the proof, joined. -/
import Derived.Test.YtbdkelffncmkhaaGreatDoorJ09
import Derived.Test.YtbdkelffncmkhaaGreatDoorJ11
import Derived.Test.YtbdkelffncmkhaaGreatDoorJ02
import Derived.Lib.AppendStr
import Derived.Test.YtbdkelffncmkhaaGreatDoorJ04
import Derived.WalkLawsBesides
import Derived.Deep.QuietTactic
import Derived.BigQuiet
/- What a scan reads, as plain functions of the bytes. -/
namespace Go.Proofs.YtbdkelffncmkhaaGreatDoor
open Go.RowKit Go.Wire1

/-- A scan's state: the reader's place and fault, its own fault. -/
structure St where
  k : Nat
  f : Int
  ft : Int

def gU (most : Nat) (l : List Int) (s : St) : Nat × Nat × Int :=
  if s.f = 0 then (match dec (l.drop s.k) with | .ok (x, m) => if most < x then (0, s.k, 14) else (x, s.k + m, 0) | .error i => (0, s.k, 11 + (i : Int))) else (0, s.k, s.f)
def gI (l : List Int) (s : St) : Int × Nat × Int :=
  if s.f = 0 then (match dec (l.drop s.k) with | .ok (x, m) => (unzig x, s.k + m, 0) | .error i => (0, s.k, 11 + (i : Int))) else (0, s.k, s.f)
def gB (most : Int) (l : List Int) (s : St) : Int × Nat × Int :=
  if s.f = 0 then (if l.length ≤ s.k then (0, s.k, 11) else if most < l.getD s.k 0 then (0, s.k, 14) else (l.getD s.k 0, s.k + 1, 0)) else (0, s.k, s.f)
def gT (least most : Int) (l : List Int) (s : St) : ByteArray × Nat × Int :=
  if s.f = 0 then (match dec (l.drop s.k) with
    | .ok (x, m) => if least ≤ (x : Int) ∧ (x : Int) ≤ most then (if s.k + m + x ≤ l.length then (strOfNums ((l.drop (s.k + m)).take x), s.k + (m + x), 0) else (⟨#[]⟩, s.k, 11)) else (⟨#[]⟩, s.k, 15)
    | .error i => (⟨#[]⟩, s.k, 11 + (i : Int))) else (⟨#[]⟩, s.k, s.f)

theorem meth_U (most : Nat) (l : List Int) (s : St) : Meth (.int .u64 0) (rU most l s.k) s.k s.f = (.int .u64 ((gU most l s).1 : Nat), (gU most l s).2.1, (gU most l s).2.2) := by
  unfold Meth gU rU
  by_cases h : s.f = 0
  · rw [if_pos h, if_pos h]
    cases dec (l.drop s.k) with
    | error i => rfl
    | ok p =>
      obtain ⟨x, m⟩ := p
      simp only
      by_cases h1 : most < x
      · rw [if_pos h1, if_pos h1]; rfl
      · rw [if_neg h1, if_neg h1]
  · rw [if_neg h, if_neg h]; rfl
theorem meth_I (l : List Int) (s : St) : Meth (.int .i64 0) (rI l s.k) s.k s.f = (.int .i64 (gI l s).1, (gI l s).2.1, (gI l s).2.2) := by
  unfold Meth gI rI
  by_cases h : s.f = 0
  · rw [if_pos h, if_pos h]
    cases dec (l.drop s.k) with
    | error i => rfl
    | ok p => rfl
  · rw [if_neg h, if_neg h]
theorem meth_B (most : Int) (l : List Int) (s : St) : Meth (.int .i64 0) (rB most l s.k) s.k s.f = (.int .i64 (gB most l s).1, (gB most l s).2.1, (gB most l s).2.2) := by
  unfold Meth gB rB
  by_cases h : s.f = 0
  · rw [if_pos h, if_pos h]
    by_cases h1 : l.length ≤ s.k
    · rw [if_pos h1, if_pos h1]; rfl
    · rw [if_neg h1, if_neg h1]
      by_cases h2 : most < l.getD s.k 0
      · rw [if_pos h2, if_pos h2]; rfl
      · rw [if_neg h2, if_neg h2]
  · rw [if_neg h, if_neg h]
theorem meth_T (least most : Int) (l : List Int) (s : St) : Meth (.string ⟨#[]⟩) (rT least most l s.k) s.k s.f = (.string (gT least most l s).1, (gT least most l s).2.1, (gT least most l s).2.2) := by
  unfold Meth gT rT
  by_cases h : s.f = 0
  · rw [if_pos h, if_pos h]
    cases dec (l.drop s.k) with
    | error i => rfl
    | ok p =>
      obtain ⟨x, m⟩ := p
      simp only
      by_cases h1 : least ≤ (x : Int) ∧ (x : Int) ≤ most
      · rw [if_pos h1, if_pos h1]
        by_cases h2 : s.k + m + x ≤ l.length
        · rw [if_pos h2, if_pos h2]
        · rw [if_neg h2, if_neg h2]; rfl
      · rw [if_neg h1, if_neg h1]; rfl
  · rw [if_neg h, if_neg h]
theorem gU_le (most : Nat) (l : List Int) (s : St) : (gU most l s).1 ≤ most := by
  unfold gU
  split
  · split
    · split <;> simp; omega
    · simp
  · simp

def sNum (most : Nat) (own : Int) (l : List Int) (s : St) : Nat × St := ((gU most l s).1, ⟨(gU most l s).2.1, (gU most l s).2.2, noteF own (gU most l s).2.2 s.ft⟩)
def sInt (l : List Int) (s : St) : Int × St := ((gI l s).1, ⟨(gI l s).2.1, (gI l s).2.2, noteF 14 (gI l s).2.2 s.ft⟩)
def sTxt (least most own : Int) (l : List Int) (s : St) : ByteArray × St := ((gT least most l s).1, ⟨(gT least most l s).2.1, (gT least most l s).2.2, noteF own (gT least most l s).2.2 s.ft⟩)
def sKind (v : Int) (l : List Int) (s : St) : Int × St :=
  ((gB 255 l s).1, ⟨(gB 255 l s).2.1, (gB 255 l s).2.2, if isKd v (gB 255 l s).1 then noteF 41 (gB 255 l s).2.2 s.ft else refF 41 (noteF 41 (gB 255 l s).2.2 s.ft)⟩)

/-- A scan in the state s. -/
def Scs (w : World) (g b : Nat) (sa : Option Addr) (n cap : Nat) (l : List Int) (a : Nat → Addr) (s : St) : Prop := Scn w g b sa n cap s.k s.f s.ft l a

section
variable (g b n cap : Nat) (sa : Option Addr) (l : List Int) (a : Nat → Addr)
set_option maxHeartbeats 600000 in
set_option maxRecDepth 100000 in
theorem number_scn (most : Nat) (own : Int) (s : St) (w : World) (hm : most ≤ 1073741824) (h : Scs w g b sa n cap l a s) :
    Calls Tryz.prog 81 #[.pointer (some ⟨g, 0, none⟩), .int .i64 (most : Int), .int .i64 own] w fun e w' => e = .returned (.int .i64 ((sNum most own l s).1 : Nat)) ∧ Turn g b w w' ∧ Scs w' g b sa n cap l a (sNum most own l s).2 := by
  have c0 := h.ptr
  have HS := hide h
  have hle := gU_le most l s
  clear h
  obtain ⟨x, hx⟩ : ∃ x, Hid ((sNum most own l s).1 = x) := ⟨_, rfl⟩
  obtain ⟨t, ht⟩ : ∃ t, Hid ((sNum most own l s).2 = t) := ⟨_, rfl⟩
  have hx1 : Hid ((gU most l s).1 = x) := hx
  have ht1 : Hid ((⟨(gU most l s).2.1, (gU most l s).2.2, noteF own (gU most l s).2.2 s.ft⟩ : St) = t) := ht
  rw [hx.out, ht.out]
  rw [hx1.out] at hle
  go_enter Tryz.func81, Tryz.ntmps81
  go_wp2_with fail
  refine (mUint.any most b n cap s.k s.f sa l a _ HS.out.rdr).mono ?_
  rintro e w1 ⟨rfl, T1, R1⟩
  rw [meth_U] at R1 ⊢
  have S1 := hide (HS.out.read T1 R1)
  have HT1 := hide (Turn.ofB (g := g) T1)
  simp only at S1 ⊢
  rw [hx1.out]
  clear T1 R1 c0
  go_wp2_with fail
  refine (note_any g b n cap _ _ _ sa l a own _ S1.out).mono ?_
  rintro e w2 ⟨rfl, T2, S2⟩
  have R2 : Hid (Turn g b w w2 ∧ Scs w2 g b sa n cap l a t) := ⟨HT1.out.trans (Turn.ofG T2), by rw [← ht1.out]; exact S2⟩
  clear T2 S2 S1 HT1
  go_wp2
  go_ret
  exact ⟨rfl, R2.out⟩

set_option maxHeartbeats 600000 in
set_option maxRecDepth 100000 in
theorem signed_scn (s : St) (w : World) (h : Scs w g b sa n cap l a s) :
    Calls Tryz.prog 85 #[.pointer (some ⟨g, 0, none⟩)] w fun e w' => e = .returned (.int .i64 (sInt l s).1) ∧ Turn g b w w' ∧ Scs w' g b sa n cap l a (sInt l s).2 := by
  have c0 := h.ptr
  have HS := hide h
  clear h
  obtain ⟨x, hx⟩ : ∃ x, Hid ((sInt l s).1 = x) := ⟨_, rfl⟩
  obtain ⟨t, ht⟩ : ∃ t, Hid ((sInt l s).2 = t) := ⟨_, rfl⟩
  have hx1 : Hid ((gI l s).1 = x) := hx
  have ht1 : Hid ((⟨(gI l s).2.1, (gI l s).2.2, noteF 14 (gI l s).2.2 s.ft⟩ : St) = t) := ht
  rw [hx.out, ht.out]
  go_enter Tryz.func85, Tryz.ntmps85
  go_wp2_with fail
  refine (mInt.any b n cap s.k s.f sa l a _ HS.out.rdr).mono ?_
  rintro e w1 ⟨rfl, T1, R1⟩
  rw [meth_I] at R1 ⊢
  have S1 := hide (HS.out.read T1 R1)
  have HT1 := hide (Turn.ofB (g := g) T1)
  simp only at S1 ⊢
  rw [hx1.out]
  clear T1 R1 c0
  go_wp2_with fail
  refine (note_any g b n cap _ _ _ sa l a 14 _ S1.out).mono ?_
  rintro e w2 ⟨rfl, T2, S2⟩
  have R2 : Hid (Turn g b w w2 ∧ Scs w2 g b sa n cap l a t) := ⟨HT1.out.trans (Turn.ofG T2), by rw [← ht1.out]; exact S2⟩
  clear T2 S2 S1 HT1
  go_wp2
  go_ret
  exact ⟨rfl, R2.out⟩

set_option maxHeartbeats 600000 in
set_option maxRecDepth 100000 in
theorem text_scn (least most own : Int) (s : St) (w : World) (h1 : -9223372036854775808 ≤ least) (h2 : least ≤ 9223372036854775807) (h3 : -9223372036854775808 ≤ most) (h4 : most ≤ 9223372036854775807) (h : Scs w g b sa n cap l a s) :
    Calls Tryz.prog 82 #[.pointer (some ⟨g, 0, none⟩), .int .i64 least, .int .i64 most, .int .i64 own] w fun e w' => e = .returned (.string (sTxt least most own l s).1) ∧ Turn g b w w' ∧ Scs w' g b sa n cap l a (sTxt least most own l s).2 := by
  have c0 := h.ptr
  have HS := hide h
  clear h
  obtain ⟨x, hx⟩ : ∃ x, Hid ((sTxt least most own l s).1 = x) := ⟨_, rfl⟩
  obtain ⟨t, ht⟩ : ∃ t, Hid ((sTxt least most own l s).2 = t) := ⟨_, rfl⟩
  have hx1 : Hid ((gT least most l s).1 = x) := hx
  have ht1 : Hid ((⟨(gT least most l s).2.1, (gT least most l s).2.2, noteF own (gT least most l s).2.2 s.ft⟩ : St) = t) := ht
  rw [hx.out, ht.out]
  go_enter Tryz.func82, Tryz.ntmps82
  go_wp2_with fail
  refine (mText.any least most h1 h2 h3 h4 b n cap s.k s.f sa l a _ HS.out.rdr).mono ?_
  rintro e w1 ⟨rfl, T1, R1⟩
  rw [meth_T] at R1 ⊢
  have S1 := hide (HS.out.read T1 R1)
  have HT1 := hide (Turn.ofB (g := g) T1)
  simp only at S1 ⊢
  rw [hx1.out]
  clear T1 R1 c0
  go_wp2_with fail
  refine (note_any g b n cap _ _ _ sa l a own _ S1.out).mono ?_
  rintro e w2 ⟨rfl, T2, S2⟩
  have R2 : Hid (Turn g b w w2 ∧ Scs w2 g b sa n cap l a t) := ⟨HT1.out.trans (Turn.ofG T2), by rw [← ht1.out]; exact S2⟩
  clear T2 S2 S1 HT1
  go_wp2
  go_ret
  exact ⟨rfl, R2.out⟩

set_option maxHeartbeats 600000 in
set_option maxRecDepth 100000 in
theorem kind_scn (v : Int) (s : St) (w : World) (hK : Knd w) (h : Scs w g b sa n cap l a s) :
    Calls Tryz.prog 80 #[.pointer (some ⟨g, 0, none⟩), .int .i64 v] w fun e w' => e = .returned (.int .i64 (sKind v l s).1) ∧ Turn g b w w' ∧ Scs w' g b sa n cap l a (sKind v l s).2 := by
  have c0 := h.ptr
  have hg := h.six
  have hb := h.rdr.ready.five
  have HS := hide h
  have HK := hide hK
  clear h hK
  obtain ⟨x, hx⟩ : ∃ x, Hid ((sKind v l s).1 = x) := ⟨_, rfl⟩
  obtain ⟨t, ht⟩ : ∃ t, Hid ((sKind v l s).2 = t) := ⟨_, rfl⟩
  have hx1 : Hid ((gB 255 l s).1 = x) := hx
  have ht1 : Hid ((⟨(gB 255 l s).2.1, (gB 255 l s).2.2, if isKd v (gB 255 l s).1 then noteF 41 (gB 255 l s).2.2 s.ft else refF 41 (noteF 41 (gB 255 l s).2.2 s.ft)⟩ : St) = t) := ht
  rw [hx.out, ht.out]
  rw [hx1.out] at ht1
  cases hk : isKd v x with
  | true =>
    have ht2 : Hid ((⟨(gB 255 l s).2.1, (gB 255 l s).2.2, noteF 41 (gB 255 l s).2.2 s.ft⟩ : St) = t) := by rw [← ht1.out, hk]; rfl
    go_enter Tryz.func80, Tryz.ntmps80
    go_wp2_with fail
    refine (mByte.any 255 b n cap s.k s.f sa l a _ HS.out.rdr).mono ?_
    rintro e w1 ⟨rfl, T1, R1⟩
    rw [meth_B] at R1 ⊢
    have S1 := hide (HS.out.read T1 R1)
    have HT1 := hide (Turn.ofB (g := g) T1)
    simp only at S1 ⊢
    rw [hx1.out]
    clear T1 R1 c0
    go_wp2_with fail
    refine (note_any g b n cap _ _ _ sa l a 41 _ S1.out).mono ?_
    rintro e w2 ⟨rfl, T2, S2⟩
    have R2 : Hid (Turn g b w w2 ∧ Scs w2 g b sa n cap l a t) := ⟨HT1.out.trans (Turn.ofG T2), by rw [← ht2.out]; exact S2⟩
    clear T2 S2 S1 HT1
    go_wp2_with fail
    refine (isKind_any v x _ (R2.out.1.knd HK.out hg hb)).mono ?_
    rintro e w3 ⟨rfl, rfl⟩
    rw [hk]
    clear hk
    go_wp2
    go_ret
    exact ⟨rfl, R2.out⟩
  | false =>
    have ht2 : Hid ((⟨(gB 255 l s).2.1, (gB 255 l s).2.2, refF 41 (noteF 41 (gB 255 l s).2.2 s.ft)⟩ : St) = t) := by rw [← ht1.out, hk]; rfl
    go_enter Tryz.func80, Tryz.ntmps80
    go_wp2_with fail
    refine (mByte.any 255 b n cap s.k s.f sa l a _ HS.out.rdr).mono ?_
    rintro e w1 ⟨rfl, T1, R1⟩
    rw [meth_B] at R1 ⊢
    have S1 := hide (HS.out.read T1 R1)
    have HT1 := hide (Turn.ofB (g := g) T1)
    simp only at S1 ⊢
    rw [hx1.out]
    clear T1 R1 c0
    go_wp2_with fail
    refine (note_any g b n cap _ _ _ sa l a 41 _ S1.out).mono ?_
    rintro e w2 ⟨rfl, T2, S2⟩
    have HS2 := hide S2
    have HT2 := hide (HT1.out.trans (Turn.ofG T2))
    clear T2 S2 S1 HT1
    go_wp2_with fail
    refine (isKind_any v x _ (HT2.out.knd HK.out hg hb)).mono ?_
    rintro e w3 ⟨rfl, rfl⟩
    rw [hk]
    clear hk
    go_wp2_with fail
    refine (refuse_any g b n cap _ _ _ sa l a 41 _ HS2.out).mono ?_
    rintro e w4 ⟨rfl, T4, S4⟩
    have R4 : Hid (Turn g b w w4 ∧ Scs w4 g b sa n cap l a t) := ⟨HT2.out.trans (Turn.ofG T4), by rw [← ht2.out]; exact S4⟩
    clear T4 S4
    go_wp2
    go_ret
    exact ⟨rfl, R4.out⟩
end
end Go.Proofs.YtbdkelffncmkhaaGreatDoor
/- The contract of PutText: new memory that holds the length's form and the text's bytes. -/
namespace Go.Proofs.YtbdkelffncmkhaaGreatDoor
open Go.RowKit Go.Wire1 Go.Lib

/-- A text's bytes, as numbers. -/
def txt (s : ByteArray) : List Int := s.data.toList.map fun b => (b.toNat : Int)
end Go.Proofs.YtbdkelffncmkhaaGreatDoor
/- One list of bytes of our own laid onto another; the contract of package command's sharedStart. -/
namespace Go.Proofs.YtbdkelffncmkhaaGreatDoor
open Go.RowKit Go.Wire1

theorem own_cells {w : World} {C : Nat} {u : Value} {E : List Int} (h : w.ownsRow C 5 1 u E.length (E.map (Value.int .u8))) (hE : 0 < E.length) : ∃ g cap, u = .slice (some ⟨g, 0, none⟩) E.length cap ∧ ∀ j x, (E.map (Value.int .u8))[j]? = some x → w.cell? ((⟨g, 0, none⟩ : Addr).add j) = some x := by
  obtain ⟨g, cap, rfl, hm⟩ := mine_of h hE
  refine ⟨g, cap, rfl, fun j x hx => ?_⟩
  have hj : j < E.length := by
    apply Classical.byContradiction
    intro hn
    rw [List.getElem?_eq_none (by rw [List.length_map]; omega)] at hx
    cases hx
  rw [add_at, Nat.zero_add, h.cellAt j (by omega)]
  exact hx
theorem own_more {w : World} {B B' : Nat} {e : TypeId} {s : Nat} {v : Value} {n : Nat} {xs : List Value} (h : w.ownsRow B e s v n xs) (hb : B' ≤ B) : w.ownsRow B' e s v n xs := by
  refine ⟨h.1, ?_⟩
  rcases h.2 with h2 | ⟨g, cap, cur, e1, hB, r⟩
  · exact .inl h2
  · exact .inr ⟨g, cap, cur, e1, by omega, r⟩

theorem wpList_join {w : World} {ops : Array Oper} {rest : List Oper} {o : Oper} {a : Act} {Q : Exit → Act → World → Prop} (hgd : o.guard = none) (s x : Operand)
    (ho : o.op = .call { callee := .builtin .append, args := #[s, x], argTypes := #[22, 22] })
    (B C : Nat) (v u : Value) (l E M : List Int) (hM : Hid (l ++ E = M)) (hs : a.eval s = v) (hx : a.eval x = u) (hown : w.ownsRow B 5 1 v l.length (l.map (Value.int .u8))) (hsrc : w.ownsRow C 5 1 u E.length (E.map (Value.int .u8)))
    (hE : 0 < E.length) (hlen : l.length + E.length ≤ 1000000) (hB : B ≤ w.heap.size)
    (h : ∀ v' w', w'.ownsRow B 5 1 v' M.length (M.map (Value.int .u8)) → w.grownBy w' v.ownBlock → wpList Tryz.prog ops Q rest (a.put o.dst v') w') : wpList Tryz.prog ops Q (o :: rest) a w := by
  obtain ⟨i0, hi, hz0, hz1, hz2⟩ := info_parts Tryz.info5
  obtain ⟨g, cap, rfl, hc⟩ := own_cells hsrc hE
  refine wpList_append_own w hgd s x 22 ho B 5 i0 (.int .u8 0) 1 1 Tryz.underlying22 hi hz0 hz1 hz2 rfl (by decide) v l.length (l.map (Value.int .u8)) hs hown ⟨g, 0, none⟩ E.length cap (E.map (Value.int .u8)) hx (by rw [List.length_map, Nat.mul_one]) hc ?_ ?_ ?_ hB ?_
  · intro y hy
    obtain ⟨z, _, rfl⟩ := List.mem_map.1 hy
    rfl
  · unfold maxLen; omega
  · omega
  · intro v' w' ho' hg _
    refine h v' w' ?_ hg
    rw [← hM.out, List.length_append, List.map_append]
    exact ho'

theorem tb_at (s : ByteArray) (i : Nat) (hi : i < s.size) (V : World) : (Instr.index 9 (.string s) (.int .i64 (i : Int))).run Tryz.prog V = .ok (.int .u8 ((s.data.toList.getD i 0).toNat : Int)) V := by
  rw [run_index_string V 9 s .i64 (i : Int) Tryz.underlying9, dif_pos ⟨by omega, by omega⟩]
  simp only [Int.toNat_natCast]
  rw [List.getD, List.getElem?_eq_getElem (by rw [← Lib.size_eq]; exact hi)]
  rfl

set_option maxHeartbeats 1000000 in
set_option maxRecDepth 100000 in
theorem sharedStart_any (k k2 : ByteArray) (w : World) (h1 : k.size ≤ 140737488351232) (h2 : k2.size ≤ 140737488351232) :
    Calls Tryz.prog 97 #[.string k, .string k2] w fun e w' => e = .returned (.int .i64 (shared k k2 : Nat)) ∧ ∃ q, w' = w.drewN q := by
  go_enter Tryz.func97, Tryz.ntmps97
  go_wp2_with fail
  go_loopw [5] (fun x wr => ∃ i q : Nat, x = .int .i64 (i : Int) ∧ i ≤ k.size ∧ i ≤ k2.size ∧ Hid (shared k k2 = i + shL (k.data.toList.drop i) (k2.data.toList.drop i)) ∧ wr = w.drewN q) (fun x _ => k.size - (intOf x).toNat)
  case atStart => exact ⟨0, 0, rfl, by omega, by omega, by simp [Hid, shared], rfl⟩
  case round =>
    obtain ⟨i, q, rfl, hi, hi2, HF, rfl⟩ := hrel
    have lk : Hid (k.data.toList.length = k.size) := (Lib.size_eq k).symm
    have lk2 : Hid (k2.data.toList.length = k2.size) := (Lib.size_eq k2).symm
    by_cases g1 : i < k.size
    · by_cases g2 : i < k2.size
      · have a1 := tb_at k i g1
        have a2 := tb_at k2 i g2
        have HD := hide (shL_drop i k.data.toList k2.data.toList (by rw [lk.out]; exact g1) (by rw [lk2.out]; exact g2))
        have d1 : decide ((i : Int) < (k.size : Int)) = true := decide_eq_true (by omega)
        have d2 : decide ((i : Int) < (k2.size : Int)) = true := decide_eq_true (by omega)
        generalize k.data.toList.getD i 0 = x at *
        generalize k2.data.toList.getD i 0 = y at *
        by_cases hxy : x = y
        · subst hxy
          have HN : Hid (shared k k2 = (i + 1) + shL (k.data.toList.drop (i + 1)) (k2.data.toList.drop (i + 1))) := by
            have e1 := HF.out
            rw [HD.out, if_pos rfl] at e1
            rw [e1]; exact hide (by omega)
          have hb : (((x.toNat : Nat) : Int) == ((x.toNat : Nat) : Int)) = true := by simp
          go_wp2
          go_quiet (fail)
          go_wp2
          go_roundw
          case rel => exact ⟨i + 1, _, by go_num, by omega, by omega, HN, rfl⟩
          case measure => simp [intOf]; omega
        · have HN : Hid (shared k k2 = i) := by
            have e1 := HF.out
            rw [HD.out, if_neg hxy] at e1
            exact e1
          have hb : (((x.toNat : Nat) : Int) == ((y.toNat : Nat) : Int)) = false := by
            rw [beq_eq_false_iff_ne]
            intro e
            exact hxy (UInt8.toNat_inj.1 (by omega))
          go_wp2
          go_quiet (fail)
          go_wp2
          go_ret
          exact ⟨by rw [HN.out]; rfl, _, by rw [World.drewN_drewN]⟩
      · have HN : Hid (shared k k2 = i) := by
          have e1 := HF.out
          rw [shL_end i _ _ (.inr (by rw [lk2.out]; omega))] at e1
          exact e1
        have d1 : decide ((i : Int) < (k.size : Int)) = true := decide_eq_true (by omega)
        have d2 : decide ((i : Int) < (k2.size : Int)) = false := decide_eq_false (by omega)
        go_wp2
        go_quiet (fail)
        go_wp2
        go_ret
        exact ⟨by rw [HN.out]; rfl, _, by rw [World.drewN_drewN]⟩
    · have HN : Hid (shared k k2 = i) := by
        have e1 := HF.out
        rw [shL_end i _ _ (.inl (by rw [lk.out]; omega))] at e1
        exact e1
      have d1 : decide ((i : Int) < (k.size : Int)) = false := decide_eq_false (by omega)
      go_wp2
      go_quiet (fail)
      go_wp2
      go_ret
      exact ⟨by rw [HN.out]; rfl, _, by rw [World.drewN_drewN]⟩
end Go.Proofs.YtbdkelffncmkhaaGreatDoor
