/- The contract of the statements' helper does: one step at a disk. -/
import Derived.Test.YtahpnfbjpdnapaaDkFill
import Derived.Test.YtahpnfbjpdnapaaDkCrash
import Derived.Test.YtahpnfbjpdnapaaDkApp
import Derived.Test.YtahpnfbjpdnapaaDkLook
namespace Go.Proofs.Ytahpnfbjpdnapaa
open Go.RowKit Go.Wire1 Go.MuLone

set_option maxHeartbeats 1000000 in
set_option maxRecDepth 100000 in
theorem does_1no (w : World) (b : Nat) (pv : Value) (l : List Int) (m E0 : Nat) (sc : Bool) (ai xi ti : Int) (da : Option Addr) (dn dc : Nat) (dl : List Int) (FL : List Int) (hF : FL = fillL dl ti) (hs : Seg w da dn dl) (_hy : Byt dl) (htop : dn ≤ 140737488351232) (ht : I64 ti) (hf : 4194304 < l.length + FL.length) (h : Dsk 0 w b pv l m E0) :
    Calls Try.prog 6 #[.pointer (some ⟨b, 0, none⟩), .agg #[.int .i64 1, .bool sc, .int .i64 ai, .int .i64 xi, .int .i64 ti, .slice da dn dc]] w fun r w' => r = .returned (.int .i64 91) ∧ ∃ pv', Dst 0 w w' b pv pv' l m E0 := by
  have SG : Hid (Seg (w.alloc (.cells #[.int .i64 1, .bool sc, .int .i64 ai, .int .i64 xi, .int .i64 ti, .slice da dn dc] 33)) da dn dl) := hs.below ((Below.refl _ _).alloc (Nat.le_refl _) _) (Nat.le_refl _)
  clear hs
  have hA : Hid (Below w.heap.size w (w.alloc (.cells #[.int .i64 1, .bool sc, .int .i64 ai, .int .i64 xi, .int .i64 ti, .slice da dn dc] 33))) := (Below.refl _ _).alloc (Nat.le_refl _) _
  have D1 := hide (h.later hA.out)
  have S1 := hide (h.stay hA.out)
  clear h
  go_enter Try.func6, Try.ntmps6
  go_wp2_with fail
  refine (filled_any da dn dc dl ti _ (by exact SG.out) htop ht).mono ?_
  rintro e w1 ⟨v, rfl, hown, hb1⟩
  have D2 := hide (D1.out.later hb1)
  have S2 := hide (S1.out.trans (D1.out.stay hb1))
  rw [← hF] at hown
  obtain ⟨fa, fc, rfl⟩ := own_shape hown
  clear hown hb1
  generalize FL.length = fn at *
  go_wp2_with fail
  refine (append_no _ b pv l m E0 fa fn fc D2.out hf).mono ?_
  rintro e w2 ⟨rfl, hb2⟩
  have S3 := hide (S2.out.trans (D2.out.stay hb2))
  clear hb2
  go_wp2
  go_ret
  exact ⟨rfl, _, S3.out⟩

set_option maxHeartbeats 1000000 in
set_option maxRecDepth 100000 in
theorem does_1yes (w : World) (b : Nat) (pv : Value) (l : List Int) (m E0 : Nat) (sc : Bool) (ai xi ti : Int) (da : Option Addr) (dn dc : Nat) (dl : List Int) (FL : List Int) (hF : FL = fillL dl ti) (hs : Seg w da dn dl) (hy : Byt dl) (htop : dn ≤ 140737488351232) (ht : I64 ti) (hf : l.length + FL.length ≤ 4194304) (h : Dsk 0 w b pv l m E0) :
    Calls Try.prog 6 #[.pointer (some ⟨b, 0, none⟩), .agg #[.int .i64 1, .bool sc, .int .i64 ai, .int .i64 xi, .int .i64 ti, .slice da dn dc]] w fun r w' => r = .returned (.int .i64 0) ∧ ∃ pv', Dst 0 w w' b pv pv' (l ++ FL) m E0 := by
  have SG : Hid (Seg (w.alloc (.cells #[.int .i64 1, .bool sc, .int .i64 ai, .int .i64 xi, .int .i64 ti, .slice da dn dc] 33)) da dn dl) := hs.below ((Below.refl _ _).alloc (Nat.le_refl _) _) (Nat.le_refl _)
  clear hs
  have hyF : Hid (Byt FL) := by rw [hF]; exact fillL_byt hy _
  have hbw : Hid (b < w.heap.size) := h.box.lt
  have hA : Hid (Below w.heap.size w (w.alloc (.cells #[.int .i64 1, .bool sc, .int .i64 ai, .int .i64 xi, .int .i64 ti, .slice da dn dc] 33))) := (Below.refl _ _).alloc (Nat.le_refl _) _
  have D1 := hide (h.later hA.out)
  have S1 := hide (h.stay hA.out)
  clear h
  go_enter Try.func6, Try.ntmps6
  go_wp2_with fail
  refine (filled_any da dn dc dl ti _ (by exact SG.out) htop ht).mono ?_
  rintro e w1 ⟨v, rfl, hown, hb1⟩
  have D2 := hide (D1.out.later hb1)
  have S2 := hide (S1.out.trans (D1.out.stay hb1))
  rw [← hF] at hown
  have hnl : Hid (∀ fa fc, v = .slice fa FL.length fc → fa = none → FL = [] ∧ fc = 0) := by
    show ∀ fa fc, _
    intro fa fc hv he
    rcases hown.2 with ⟨e, h0⟩ | ⟨g, c, cur, e, _⟩
    · rw [hv] at e; injection e with _ _ e3; exact ⟨List.eq_nil_of_length_eq_zero h0, e3⟩
    · rw [hv, he] at e; cases e
  have hlo := hide (fun k hk => (hown.lt k hk).1)
  obtain ⟨fa, fc, rfl, _, _, sg⟩ := seg_own hown
  have SF := hide sg
  clear hown hb1 sg
  obtain ⟨fn, hfn⟩ : ∃ fn, FL.length = fn := ⟨_, rfl⟩
  rw [hfn] at hf SF hnl ⊢
  have HFN := hide hfn
  clear hfn
  cases fa with
  | none =>
    obtain ⟨e1, e2⟩ := hnl.out none fc rfl rfl
    subst e2
    obtain rfl : fn = 0 := by have := HFN.out; rw [e1] at this; exact this.symm
    have E1 := hide e1
    clear hF e1
    go_wp2_with fail
    refine (append_nil _ b pv l m E0 D2.out).mono ?_
    rintro e w2 ⟨rfl, pv2, k⟩
    have S3 := hide (S2.out.trans k)
    clear k
    go_wp2
    go_ret
    exact ⟨rfl, _, by rw [E1.out, List.append_nil]; exact S3.out⟩
  | some ad =>
    have hsep : Hid (0 < fn → ad.block ≠ b) := by
      show 0 < _ → _
      intro _
      have h1 := hlo.out ad.block rfl
      have h2 := hbw.out
      have h3 := hA.out.size
      omega
    clear hlo hnl
    go_wp2_with fail
    refine (append_some _ b pv l m E0 ad fn fc FL D2.out SF.out hyF.out hsep.out hf).mono ?_
    rintro e w2 ⟨rfl, pv2, k⟩
    have S3 := hide (S2.out.trans k)
    clear k
    go_wp2
    go_ret
    exact ⟨rfl, _, S3.out⟩

set_option maxHeartbeats 1000000 in
set_option maxRecDepth 100000 in
theorem does_2 (w : World) (b : Nat) (pv : Value) (l : List Int) (m E0 : Nat) (sc : Bool) (ai xi ti : Int) (da : Option Addr) (dn dc : Nat)  (h : Dsk 0 w b pv l m E0) :
    Calls Try.prog 6 #[.pointer (some ⟨b, 0, none⟩), .agg #[.int .i64 2, .bool sc, .int .i64 ai, .int .i64 xi, .int .i64 ti, .slice da dn dc]] w fun r w' => r = .returned (.int .i64 0) ∧ ∃ pv', Dst 0 w w' b pv pv' l l.length E0 := by
  have hA : Hid (Below w.heap.size w (w.alloc (.cells #[.int .i64 2, .bool sc, .int .i64 ai, .int .i64 xi, .int .i64 ti, .slice da dn dc] 33))) := (Below.refl _ _).alloc (Nat.le_refl _) _
  have D1 := hide (h.later hA.out)
  have S1 := hide (h.stay hA.out)
  clear h
  go_enter Try.func6, Try.ntmps6
  go_wp2_with fail
  refine (sync_any _ b pv l m E0 D1.out).mono ?_
  rintro e w1 ⟨rfl, k⟩
  have S3 := hide (S1.out.trans k)
  clear k
  go_wp2
  go_ret
  exact ⟨rfl, _, S3.out⟩

set_option maxHeartbeats 1000000 in
set_option maxRecDepth 100000 in
theorem does_3no (w : World) (b : Nat) (pv : Value) (l : List Int) (m E0 : Nat) (sc : Bool) (ai xi ti : Int) (da : Option Addr) (dn dc : Nat) (ha : ai < 0) (h : Dsk 0 w b pv l m E0) :
    Calls Try.prog 6 #[.pointer (some ⟨b, 0, none⟩), .agg #[.int .i64 3, .bool sc, .int .i64 ai, .int .i64 xi, .int .i64 ti, .slice da dn dc]] w fun r w' => r = .returned (.int .i64 1) ∧ ∃ pv', Dst 0 w w' b pv pv' l m E0 := by
  have hA : Hid (Below w.heap.size w (w.alloc (.cells #[.int .i64 3, .bool sc, .int .i64 ai, .int .i64 xi, .int .i64 ti, .slice da dn dc] 33))) := (Below.refl _ _).alloc (Nat.le_refl _) _
  have D1 := hide (h.later hA.out)
  have S1 := hide (h.stay hA.out)
  clear h
  go_enter Try.func6, Try.ntmps6
  go_wp2_with fail
  refine (crash_no _ b pv l m E0 ai D1.out ha).mono ?_
  rintro e w1 ⟨rfl, k⟩
  have S3 := hide (S1.out.trans (D1.out.stay k))
  clear k
  go_wp2
  go_ret
  exact ⟨rfl, _, S3.out⟩

set_option maxHeartbeats 1000000 in
set_option maxRecDepth 100000 in
theorem does_3part (w : World) (b : Nat) (pv : Value) (l : List Int) (m E0 : Nat) (sc : Bool) (_ai xi ti : Int) (da : Option Addr) (dn dc : Nat) (q : Nat) (hq : q ≤ l.length - m) (hq2 : (q : Int) ≤ 9223372036854775807) (h : Dsk 0 w b pv l m E0) :
    Calls Try.prog 6 #[.pointer (some ⟨b, 0, none⟩), .agg #[.int .i64 3, .bool sc, .int .i64 (q : Int), .int .i64 xi, .int .i64 ti, .slice da dn dc]] w fun r w' => r = .returned (.int .i64 0) ∧ ∃ pv', Dst 0 w w' b pv pv' (l.take (m + q)) m E0 := by
  have hA : Hid (Below w.heap.size w (w.alloc (.cells #[.int .i64 3, .bool sc, .int .i64 (q : Int), .int .i64 xi, .int .i64 ti, .slice da dn dc] 33))) := (Below.refl _ _).alloc (Nat.le_refl _) _
  have D1 := hide (h.later hA.out)
  have S1 := hide (h.stay hA.out)
  clear h
  go_enter Try.func6, Try.ntmps6
  go_wp2_with fail
  refine (crash_part _ b pv l m E0 q D1.out hq hq2).mono ?_
  rintro e w1 ⟨rfl, pv2, k⟩
  have S3 := hide (S1.out.trans k)
  clear k
  go_wp2
  go_ret
  exact ⟨rfl, _, S3.out⟩

set_option maxHeartbeats 1000000 in
set_option maxRecDepth 100000 in
theorem does_3all (w : World) (b : Nat) (pv : Value) (l : List Int) (m E0 : Nat) (sc : Bool) (_ai xi ti : Int) (da : Option Addr) (dn dc : Nat) (q : Nat) (hq : l.length - m < q) (hq2 : (q : Int) ≤ 9223372036854775807) (h : Dsk 0 w b pv l m E0) :
    Calls Try.prog 6 #[.pointer (some ⟨b, 0, none⟩), .agg #[.int .i64 3, .bool sc, .int .i64 (q : Int), .int .i64 xi, .int .i64 ti, .slice da dn dc]] w fun r w' => r = .returned (.int .i64 0) ∧ ∃ pv', Dst 0 w w' b pv pv' (l.take l.length) m E0 := by
  have hA : Hid (Below w.heap.size w (w.alloc (.cells #[.int .i64 3, .bool sc, .int .i64 (q : Int), .int .i64 xi, .int .i64 ti, .slice da dn dc] 33))) := (Below.refl _ _).alloc (Nat.le_refl _) _
  have D1 := hide (h.later hA.out)
  have S1 := hide (h.stay hA.out)
  clear h
  go_enter Try.func6, Try.ntmps6
  go_wp2_with fail
  refine (crash_all _ b pv l m E0 q D1.out hq hq2).mono ?_
  rintro e w1 ⟨rfl, pv2, k⟩
  have S3 := hide (S1.out.trans k)
  clear k
  go_wp2
  go_ret
  exact ⟨rfl, _, S3.out⟩

set_option maxHeartbeats 1000000 in
set_option maxRecDepth 100000 in
theorem does_4no (w : World) (b : Nat) (pv : Value) (l : List Int) (m E0 : Nat) (sc : Bool) (ai xi ti : Int) (da : Option Addr) (dn dc : Nat) (hz : ai < m ∨ (l.length : Int) < ai) (h : Dsk 0 w b pv l m E0) :
    Calls Try.prog 6 #[.pointer (some ⟨b, 0, none⟩), .agg #[.int .i64 4, .bool sc, .int .i64 ai, .int .i64 xi, .int .i64 ti, .slice da dn dc]] w fun r w' => r = .returned (.int .i64 93) ∧ ∃ pv', Dst 0 w w' b pv pv' l m E0 := by
  have HZ := hide hz
  clear hz
  have hA : Hid (Below w.heap.size w (w.alloc (.cells #[.int .i64 4, .bool sc, .int .i64 ai, .int .i64 xi, .int .i64 ti, .slice da dn dc] 33))) := (Below.refl _ _).alloc (Nat.le_refl _) _
  have D1 := hide (h.later hA.out)
  have S1 := hide (h.stay hA.out)
  clear h
  go_enter Try.func6, Try.ntmps6
  go_wp2_with fail
  refine (cut_no _ b pv l m E0 ai D1.out HZ.out).mono ?_
  rintro e w1 ⟨rfl, k⟩
  have S3 := hide (S1.out.trans (D1.out.stay k))
  clear k
  go_wp2
  go_ret
  exact ⟨rfl, _, S3.out⟩

set_option maxHeartbeats 1000000 in
set_option maxRecDepth 100000 in
theorem does_4yes (w : World) (b : Nat) (pv : Value) (l : List Int) (m E0 : Nat) (sc : Bool) (_ai xi ti : Int) (da : Option Addr) (dn dc : Nat) (q : Nat) (hq : q ≤ l.length) (hm : m ≤ q) (h : Dsk 0 w b pv l m E0) :
    Calls Try.prog 6 #[.pointer (some ⟨b, 0, none⟩), .agg #[.int .i64 4, .bool sc, .int .i64 (q : Int), .int .i64 xi, .int .i64 ti, .slice da dn dc]] w fun r w' => r = .returned (.int .i64 0) ∧ ∃ pv', Dst 0 w w' b pv pv' (l.take q) m E0 := by
  have hA : Hid (Below w.heap.size w (w.alloc (.cells #[.int .i64 4, .bool sc, .int .i64 (q : Int), .int .i64 xi, .int .i64 ti, .slice da dn dc] 33))) := (Below.refl _ _).alloc (Nat.le_refl _) _
  have D1 := hide (h.later hA.out)
  have S1 := hide (h.stay hA.out)
  clear h
  go_enter Try.func6, Try.ntmps6
  go_wp2_with fail
  refine (cut_yes _ b pv l m E0 q D1.out hq hm).mono ?_
  rintro e w1 ⟨rfl, pv2, k⟩
  have S3 := hide (S1.out.trans k)
  clear k
  go_wp2
  go_ret
  exact ⟨rfl, _, S3.out⟩

set_option maxHeartbeats 1000000 in
set_option maxRecDepth 100000 in
theorem does_5low (w : World) (b : Nat) (pv : Value) (l : List Int) (m E0 : Nat) (sc : Bool) (ai xi ti : Int) (da : Option Addr) (dn dc : Nat) (hz : ai < 0) (h : Dsk 0 w b pv l m E0) :
    Calls Try.prog 6 #[.pointer (some ⟨b, 0, none⟩), .agg #[.int .i64 5, .bool sc, .int .i64 ai, .int .i64 xi, .int .i64 ti, .slice da dn dc]] w fun r w' => r = .returned (.int .i64 93) ∧ ∃ pv', Dst 0 w w' b pv pv' l m E0 := by
  have Hhz := hide hz
  clear hz
  have hA : Hid (Below w.heap.size w (w.alloc (.cells #[.int .i64 5, .bool sc, .int .i64 ai, .int .i64 xi, .int .i64 ti, .slice da dn dc] 33))) := (Below.refl _ _).alloc (Nat.le_refl _) _
  have D1 := hide (h.later hA.out)
  have S1 := hide (h.stay hA.out)
  clear h
  go_enter Try.func6, Try.ntmps6
  go_wp2_with fail
  refine (rot_low _ b pv l m E0 ai xi D1.out (by have := Hhz.out; omega)).mono ?_
  rintro e w1 ⟨rfl, k⟩
  have S3 := hide (S1.out.trans (D1.out.stay k))
  clear k
  go_wp2
  go_ret
  exact ⟨rfl, _, S3.out⟩

set_option maxHeartbeats 1000000 in
set_option maxRecDepth 100000 in
theorem does_5high (w : World) (b : Nat) (pv : Value) (l : List Int) (m E0 : Nat) (sc : Bool) (ai xi ti : Int) (da : Option Addr) (dn dc : Nat) (hz : ¬ ai < 0) (hz2 : (l.length : Int) ≤ ai) (h : Dsk 0 w b pv l m E0) :
    Calls Try.prog 6 #[.pointer (some ⟨b, 0, none⟩), .agg #[.int .i64 5, .bool sc, .int .i64 ai, .int .i64 xi, .int .i64 ti, .slice da dn dc]] w fun r w' => r = .returned (.int .i64 93) ∧ ∃ pv', Dst 0 w w' b pv pv' l m E0 := by
  have Hhz := hide hz
  have Hhz2 := hide hz2
  clear hz2 hz
  have hA : Hid (Below w.heap.size w (w.alloc (.cells #[.int .i64 5, .bool sc, .int .i64 ai, .int .i64 xi, .int .i64 ti, .slice da dn dc] 33))) := (Below.refl _ _).alloc (Nat.le_refl _) _
  have D1 := hide (h.later hA.out)
  have S1 := hide (h.stay hA.out)
  clear h
  go_enter Try.func6, Try.ntmps6
  go_wp2_with fail
  refine (rot_high _ b pv l m E0 ai xi D1.out (by have := Hhz.out; omega) (by have := Hhz2.out; omega)).mono ?_
  rintro e w1 ⟨rfl, k⟩
  have S3 := hide (S1.out.trans (D1.out.stay k))
  clear k
  go_wp2
  go_ret
  exact ⟨rfl, _, S3.out⟩

set_option maxHeartbeats 1000000 in
set_option maxRecDepth 100000 in
theorem does_5zero (w : World) (b : Nat) (pv : Value) (l : List Int) (m E0 : Nat) (sc : Bool) (ai xi ti : Int) (da : Option Addr) (dn dc : Nat) (hz : ¬ ai < 0) (hz2 : ai < (l.length : Int)) (hx : xi < 1) (h : Dsk 0 w b pv l m E0) :
    Calls Try.prog 6 #[.pointer (some ⟨b, 0, none⟩), .agg #[.int .i64 5, .bool sc, .int .i64 ai, .int .i64 xi, .int .i64 ti, .slice da dn dc]] w fun r w' => r = .returned (.int .i64 94) ∧ ∃ pv', Dst 0 w w' b pv pv' l m E0 := by
  have Hhz := hide hz
  have Hhz2 := hide hz2
  have Hhx := hide hx
  clear hx hz2 hz
  have hA : Hid (Below w.heap.size w (w.alloc (.cells #[.int .i64 5, .bool sc, .int .i64 ai, .int .i64 xi, .int .i64 ti, .slice da dn dc] 33))) := (Below.refl _ _).alloc (Nat.le_refl _) _
  have D1 := hide (h.later hA.out)
  have S1 := hide (h.stay hA.out)
  clear h
  go_enter Try.func6, Try.ntmps6
  go_wp2_with fail
  refine (rot_zero _ b pv l m E0 ai xi D1.out (by have := Hhz.out; omega) (by have := Hhz2.out; omega) (by have := Hhx.out; omega)).mono ?_
  rintro e w1 ⟨rfl, k⟩
  have S3 := hide (S1.out.trans (D1.out.stay k))
  clear k
  go_wp2
  go_ret
  exact ⟨rfl, _, S3.out⟩

set_option maxHeartbeats 1000000 in
set_option maxRecDepth 100000 in
theorem does_5wide (w : World) (b : Nat) (pv : Value) (l : List Int) (m E0 : Nat) (sc : Bool) (ai xi ti : Int) (da : Option Addr) (dn dc : Nat) (hz : ¬ ai < 0) (hz2 : ai < (l.length : Int)) (hx : ¬ xi < 1) (hx2 : 255 < xi) (h : Dsk 0 w b pv l m E0) :
    Calls Try.prog 6 #[.pointer (some ⟨b, 0, none⟩), .agg #[.int .i64 5, .bool sc, .int .i64 ai, .int .i64 xi, .int .i64 ti, .slice da dn dc]] w fun r w' => r = .returned (.int .i64 94) ∧ ∃ pv', Dst 0 w w' b pv pv' l m E0 := by
  have Hhz := hide hz
  have Hhz2 := hide hz2
  have Hhx := hide hx
  have Hhx2 := hide hx2
  clear hx2 hx hz2 hz
  have hA : Hid (Below w.heap.size w (w.alloc (.cells #[.int .i64 5, .bool sc, .int .i64 ai, .int .i64 xi, .int .i64 ti, .slice da dn dc] 33))) := (Below.refl _ _).alloc (Nat.le_refl _) _
  have D1 := hide (h.later hA.out)
  have S1 := hide (h.stay hA.out)
  clear h
  go_enter Try.func6, Try.ntmps6
  go_wp2_with fail
  refine (rot_wide _ b pv l m E0 ai xi D1.out (by have := Hhz.out; omega) (by have := Hhz2.out; omega) (by have := Hhx.out; omega) (by have := Hhx2.out; omega)).mono ?_
  rintro e w1 ⟨rfl, k⟩
  have S3 := hide (S1.out.trans (D1.out.stay k))
  clear k
  go_wp2
  go_ret
  exact ⟨rfl, _, S3.out⟩

set_option maxHeartbeats 1000000 in
set_option maxRecDepth 100000 in
theorem does_5yes (w : World) (b : Nat) (pv : Value) (l : List Int) (m E0 : Nat) (sc : Bool) (_ai _xi ti : Int) (da : Option Addr) (dn dc : Nat) (q y : Nat) (hq : q < l.length) (hx : 1 ≤ y) (hx2 : y ≤ 255) (h : Dsk 0 w b pv l m E0) :
    Calls Try.prog 6 #[.pointer (some ⟨b, 0, none⟩), .agg #[.int .i64 5, .bool sc, .int .i64 (q : Int), .int .i64 (y : Int), .int .i64 ti, .slice da dn dc]] w fun r w' => r = .returned (.int .i64 0) ∧ ∃ pv', Dst 0 w w' b pv pv' (l.set q (rotZ (l.getD q 0) (y : Int))) m E0 := by
  have hA : Hid (Below w.heap.size w (w.alloc (.cells #[.int .i64 5, .bool sc, .int .i64 (q : Int), .int .i64 (y : Int), .int .i64 ti, .slice da dn dc] 33))) := (Below.refl _ _).alloc (Nat.le_refl _) _
  have D1 := hide (h.later hA.out)
  have S1 := hide (h.stay hA.out)
  clear h
  go_enter Try.func6, Try.ntmps6
  go_wp2_with fail
  refine (rot_yes _ b pv l m E0 q y D1.out hq hx hx2).mono ?_
  rintro e w1 ⟨rfl, k⟩
  have S3 := hide (S1.out.trans k)
  clear k
  go_wp2
  go_ret
  exact ⟨rfl, _, S3.out⟩

set_option maxHeartbeats 1000000 in
set_option maxRecDepth 100000 in
theorem does_else (w : World) (b : Nat) (pv : Value) (l : List Int) (m E0 : Nat) (sc : Bool) (ai xi ti : Int) (da : Option Addr) (dn dc : Nat) (kd : Int) (k1 : ¬ kd = 1) (k2 : ¬ kd = 2) (k3 : ¬ kd = 3) (k4 : ¬ kd = 4) (k5 : ¬ kd = 5) (h : Dsk 0 w b pv l m E0) :
    Calls Try.prog 6 #[.pointer (some ⟨b, 0, none⟩), .agg #[.int .i64 kd, .bool sc, .int .i64 ai, .int .i64 xi, .int .i64 ti, .slice da dn dc]] w fun r w' => r = .returned (.int .i64 0) ∧ ∃ pv', Dst 0 w w' b pv pv' l m E0 := by
  have hA : Hid (Below w.heap.size w (w.alloc (.cells #[.int .i64 kd, .bool sc, .int .i64 ai, .int .i64 xi, .int .i64 ti, .slice da dn dc] 33))) := (Below.refl _ _).alloc (Nat.le_refl _) _
  have D1 := hide (h.later hA.out)
  have S1 := hide (h.stay hA.out)
  clear h
  go_enter Try.func6, Try.ntmps6
  go_wp2
  go_ret
  exact ⟨rfl, _, S1.out⟩


theorem does_any (w : World) (b : Nat) (pv : Value) (l : List Int) (m E0 : Nat) (o : OpD) (h : Dsk 0 w b pv l m E0) (ho : OdOk w o) :
    Calls Try.prog 6 #[.pointer (some ⟨b, 0, none⟩), .agg (opc o).toArray] w fun r w' => r = .returned (.int .i64 (dErr o l m)) ∧ ∃ pv', Dst 0 w w' b pv pv' (dNew o l m) (dMark o l m) E0 := by
  obtain ⟨kd, sc, ai, xi, ti, da, dn, dc, dl⟩ := o
  obtain ⟨hs, hy, hnil, htop, ba, bx, bt⟩ := ho
  simp only at hs hy hnil htop ba bx bt
  show Calls Try.prog 6 #[.pointer (some ⟨b, 0, none⟩), .agg #[.int .i64 kd, .bool sc, .int .i64 ai, .int .i64 xi, .int .i64 ti, .slice da dn dc]] w _
  have hle := h.le
  by_cases k1 : kd = 1
  · subst k1
    by_cases hf : 4194304 < l.length + (fillL dl ti).length
    · have e1 : dErr ⟨1, sc, ai, xi, ti, da, dn, dc, dl⟩ l m = 91 := by simp [dErr, dFull, hf]
      rw [dNew_err (by rw [e1]; decide), dMark_err (by rw [e1]; decide), e1]
      exact does_1no w b pv l m E0 sc ai xi ti da dn dc dl _ rfl hs hy htop bt hf h
    · have e1 : dErr ⟨1, sc, ai, xi, ti, da, dn, dc, dl⟩ l m = 0 := by simp [dErr, dFull, hf]
      have e2 : dNew ⟨1, sc, ai, xi, ti, da, dn, dc, dl⟩ l m = l ++ fillL dl ti := by simp [dNew, e1]
      rw [e1, e2, dMark_else (by intro e; cases e)]
      exact does_1yes w b pv l m E0 sc ai xi ti da dn dc dl _ rfl hs hy htop bt (by omega) h
  by_cases k2 : kd = 2
  · subst k2
    rw [dErr_kind2 rfl, dNew_two rfl, dMark_two rfl]
    exact does_2 w b pv l m E0 sc ai xi ti da dn dc h
  by_cases k3 : kd = 3
  · subst k3
    by_cases ha : ai < 0
    · have e1 : dErr ⟨3, sc, ai, xi, ti, da, dn, dc, dl⟩ l m = 1 := by simp [dErr, ha]
      rw [dNew_err (by rw [e1]; decide), dMark_err (by rw [e1]; decide), e1]
      exact does_3no w b pv l m E0 sc ai xi ti da dn dc ha h
    · obtain ⟨q, rfl⟩ := Int.eq_ofNat_of_zero_le (show 0 ≤ ai by omega)
      have e1 : dErr ⟨3, sc, (q : Int), xi, ti, da, dn, dc, dl⟩ l m = 0 := by simp only [dErr]; rw [if_neg (by decide), if_pos trivial, if_neg ha]
      have e2 : dNew ⟨3, sc, (q : Int), xi, ti, da, dn, dc, dl⟩ l m = l.take (m + min q (l.length - m)) := by simp [dNew, e1]
      rw [e1, e2, dMark_else (by intro e; cases e)]
      by_cases hq : q ≤ l.length - m
      · rw [Nat.min_eq_left hq]
        exact does_3part w b pv l m E0 sc 0 xi ti da dn dc q hq ba.2 h
      · rw [Nat.min_eq_right (by omega), show m + (l.length - m) = l.length by omega]
        exact does_3all w b pv l m E0 sc 0 xi ti da dn dc q (by omega) ba.2 h
  by_cases k4 : kd = 4
  · subst k4
    by_cases ha : ai < m ∨ (l.length : Int) < ai
    · have e1 : dErr ⟨4, sc, ai, xi, ti, da, dn, dc, dl⟩ l m = 93 := by simp [dErr, ha]
      rw [dNew_err (by rw [e1]; decide), dMark_err (by rw [e1]; decide), e1]
      exact does_4no w b pv l m E0 sc ai xi ti da dn dc ha h
    · obtain ⟨q, rfl⟩ := Int.eq_ofNat_of_zero_le (show 0 ≤ ai by omega)
      have e1 : dErr ⟨4, sc, (q : Int), xi, ti, da, dn, dc, dl⟩ l m = 0 := by simp only [dErr]; rw [if_neg (by decide), if_neg (by decide), if_pos trivial, if_neg ha]
      have e2 : dNew ⟨4, sc, (q : Int), xi, ti, da, dn, dc, dl⟩ l m = l.take q := by simp [dNew, e1]
      rw [e1, e2, dMark_else (by intro e; cases e)]
      exact does_4yes w b pv l m E0 sc 0 xi ti da dn dc q (by omega) (by omega) h
  by_cases k5 : kd = 5
  · subst k5
    have go : ∀ e : Int, e ≠ 0 → dErr ⟨5, sc, ai, xi, ti, da, dn, dc, dl⟩ l m = e → Calls Try.prog 6 #[.pointer (some ⟨b, 0, none⟩), .agg #[.int .i64 5, .bool sc, .int .i64 ai, .int .i64 xi, .int .i64 ti, .slice da dn dc]] w (fun r w' => r = .returned (.int .i64 e) ∧ ∃ pv', Dst 0 w w' b pv pv' l m E0) →
        Calls Try.prog 6 #[.pointer (some ⟨b, 0, none⟩), .agg #[.int .i64 5, .bool sc, .int .i64 ai, .int .i64 xi, .int .i64 ti, .slice da dn dc]] w (fun r w' => r = .returned (.int .i64 (dErr ⟨5, sc, ai, xi, ti, da, dn, dc, dl⟩ l m)) ∧ ∃ pv', Dst 0 w w' b pv pv' (dNew ⟨5, sc, ai, xi, ti, da, dn, dc, dl⟩ l m) (dMark ⟨5, sc, ai, xi, ti, da, dn, dc, dl⟩ l m) E0) := by
      intro e h0 he hc
      rw [dNew_err (by rw [he]; exact h0), dMark_err (by rw [he]; exact h0), he]
      exact hc
    by_cases z1 : ai < 0
    · exact go 93 (by decide) (by simp [dErr, z1]) (does_5low w b pv l m E0 sc ai xi ti da dn dc z1 h)
    by_cases z2 : (l.length : Int) ≤ ai
    · exact go 93 (by decide) (by simp [dErr, z2]) (does_5high w b pv l m E0 sc ai xi ti da dn dc z1 z2 h)
    have z3 : ¬ (ai < 0 ∨ (l.length : Int) ≤ ai) := by omega
    by_cases x1 : xi < 1
    · exact go 94 (by decide) (by simp [dErr, z1, z2, x1]) (does_5zero w b pv l m E0 sc ai xi ti da dn dc z1 (by omega) x1 h)
    by_cases x2 : 255 < xi
    · exact go 94 (by decide) (by simp [dErr, z1, z2, x2]) (does_5wide w b pv l m E0 sc ai xi ti da dn dc z1 (by omega) x1 x2 h)
    obtain ⟨q, rfl⟩ := Int.eq_ofNat_of_zero_le (show 0 ≤ ai by omega)
    obtain ⟨y, rfl⟩ := Int.eq_ofNat_of_zero_le (show 0 ≤ xi by omega)
    have x3 : ¬ ((y : Int) < 1 ∨ 255 < (y : Int)) := by omega
    have e1 : dErr ⟨5, sc, (q : Int), (y : Int), ti, da, dn, dc, dl⟩ l m = 0 := by simp only [dErr]; rw [if_neg (by decide), if_neg (by decide), if_neg (by decide), if_pos trivial, if_neg z3, if_neg x3]
    have e2 : dNew ⟨5, sc, (q : Int), (y : Int), ti, da, dn, dc, dl⟩ l m = l.set q (rotZ (l.getD q 0) (y : Int)) := by simp [dNew, e1]
    rw [e1, e2, dMark_else (by intro e; cases e)]
    exact does_5yes w b pv l m E0 sc 0 0 ti da dn dc q y (by omega) (by omega) (by omega) h
  · have e1 : dErr ⟨kd, sc, ai, xi, ti, da, dn, dc, dl⟩ l m = 0 := by simp [dErr, k1, k3, k4, k5]
    have e2 : dNew ⟨kd, sc, ai, xi, ti, da, dn, dc, dl⟩ l m = l := by simp [dNew, k1, k3, k4, k5]
    rw [e1, e2, dMark_else (by exact k2)]
    exact does_else w b pv l m E0 sc ai xi ti da dn dc kd k1 k2 k3 k4 k5 h
end Go.Proofs.Ytahpnfbjpdnapaa
