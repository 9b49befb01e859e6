/- Texts of the proof, joined. -/
import Derived.Test.YtbdkelffncmkhaaGreatDoorJ02
import Derived.Laws.BytesArg
import Derived.Test.YtbdkelffncmkhaaGreatDoorJ03
import Derived.Defers
import Derived.Recover
import Derived.RegionTactic
import Derived.ChangeAlike
/- The contracts of the cursor's numberTo, byteTo and text, and of lengthAllowed. -/
namespace Go.Proofs.YtbdkelffncmkhaaGreatDoor
open Go.RowKit Go.Wire1

/-- What an inner reading comes to: a value and the place behind it; or a panic with a sentinel. -/
def OutV (a : Nat → Addr) (r : Except Nat (Value × Nat)) (e : Ending) (k k' : Nat) : Prop :=
  match r with
  | .ok (v, m) => e = .returned v ∧ k' = k + m
  | .error i => e = .panicked [{ v := errV (a i), recovered := false }]

def rU (most : Nat) (l : List Int) (k : Nat) : Except Nat (Value × Nat) :=
  match dec (l.drop k) with
  | .ok (x, m) => if most < x then .error 3 else .ok (.int .u64 (x : Int), m)
  | .error i => .error i
def rI (l : List Int) (k : Nat) : Except Nat (Value × Nat) :=
  match dec (l.drop k) with
  | .ok (x, m) => .ok (.int .i64 (unzig x), m)
  | .error i => .error i
def rB (most : Int) (l : List Int) (k : Nat) : Except Nat (Value × Nat) :=
  if l.length ≤ k then .error 0 else if most < l.getD k 0 then .error 3 else .ok (.int .i64 (l.getD k 0), 1)
def rT (least most : Int) (l : List Int) (k : Nat) : Except Nat (Value × Nat) :=
  match dec (l.drop k) with
  | .ok (x, m) => if least ≤ (x : Int) ∧ (x : Int) ≤ most then (if k + m + x ≤ l.length then .ok (.string (strOfNums ((l.drop (k + m)).take x)), m + x) else .error 0) else .error 4
  | .error i => .error i

/-- What all inner readings ask. -/
structure Ready (w : World) (b o : Nat) (sa : Option Addr) (n cap k : Nat) (l : List Int) (a : Nat → Addr) : Prop where
  cur : Cur w b o sa n cap k
  seg : Seg w sa n l
  sep : ∀ x, sa = some x → 0 < n → x.block ≠ b
  byt : Byt l
  le : k ≤ n
  errs : Errs w a
  five : 7 ≤ b
  apart : ∀ i, i < 5 → (a i).block ≠ b

theorem Ready.only {w w' : World} {b o : Nat} {sa : Option Addr} {n cap k k' : Nat} {l : List Int} {a : Nat → Addr} (h : Ready w b o sa n cap k l a) (ho : Only b (o + 1) w w') (hc : Cur w' b o sa n cap k') (hk : k' ≤ n) : Ready w' b o sa n cap k' l a :=
  ⟨hc, ho.seg h.seg h.sep, h.sep, h.byt, hk, h.errs.only ho h.five h.apart, h.five, h.apart⟩

set_option maxHeartbeats 1000000 in
set_option maxRecDepth 100000 in
theorem numberTo_any (most : Nat) (b o n cap : Nat) (sa : Option Addr) (l : List Int) (k : Nat) (a : Nat → Addr) (w : World) (h : Ready w b o sa n cap k l a) :
    Calls Tryz.prog 108 #[.pointer (some ⟨b, o, none⟩), .int .u64 (most : Int)] w fun e w' => Only b (o + 1) w w' ∧ ∃ k', Cur w' b o sa n cap k' ∧ k' ≤ n ∧ OutV a (rU most l k) e k k' := by
  go_enter Tryz.func108, Tryz.ntmps108
  go_wp2_with fail
  refine (number_any b o n cap sa l k a _ h.cur h.seg h.sep h.byt h.le h.errs h.five h.apart).mono ?_
  rintro e w1 ⟨ho, k', hc1, hk', hout⟩
  have e3 := (h.errs.only ho h.five h.apart).s3
  cases hd : dec (l.drop k) with
  | error i =>
    have HQ : Hid (rU most l k = .error i) := by show _ = _; unfold rU; rw [hd]
    rw [hd] at hout
    obtain rfl : e = _ := hout
    clear hd
    go_wp2
    refine ⟨rfl, ho, k', hc1, hk', ?_⟩
    rw [HQ.out]; rfl
  | ok p =>
    obtain ⟨x, m⟩ := p
    rw [hd] at hout
    obtain ⟨rfl, HK0⟩ := hout
    have HK : Hid (k' = k + m) := HK0
    clear HK0
    by_cases hx : most < x
    · have HQ : Hid (rU most l k = .error 3) := by show _ = _; unfold rU; rw [hd]; exact if_pos hx
      clear hd
      go_wp2
      refine ⟨rfl, ho, k', hc1, hk', ?_⟩
      rw [HQ.out]; rfl
    · have HQ : Hid (rU most l k = .ok (.int .u64 (x : Int), m)) := by show _ = _; unfold rU; rw [hd]; exact if_neg hx
      clear hd
      go_wp2
      go_ret
      refine ⟨ho, k', hc1, hk', ?_⟩
      rw [HQ.out]; exact ⟨rfl, HK.out⟩

set_option maxHeartbeats 1000000 in
set_option maxRecDepth 100000 in
theorem byteTo_any (most : Int) (b o n cap : Nat) (sa : Option Addr) (l : List Int) (k : Nat) (a : Nat → Addr) (w : World) (h : Ready w b o sa n cap k l a) :
    Calls Tryz.prog 106 #[.pointer (some ⟨b, o, none⟩), .int .i64 most] w fun e w' => Only b (o + 1) w w' ∧ ∃ k', Cur w' b o sa n cap k' ∧ k' ≤ n ∧ OutV a (rB most l k) e k k' := by
  have hn := h.seg.2.1
  have hl := h.seg.1
  by_cases hkn : k = n
  · subst hkn
    have HQ : Hid (rB most l k = .error 0) := by show _ = _; unfold rB; exact if_pos (by omega)
    clear hl
    go_enter Tryz.func106, Tryz.ntmps106
    go_wp2_with fail
    refine (next_end b o k cap _ a _ h.cur hn h.errs).mono ?_
    rintro e w1 ⟨rfl, ho, hc1⟩
    refine ⟨rfl, ho, k, hc1, Nat.le_refl _, ?_⟩
    rw [HQ.out]; rfl
  · have hlt : k < n := by have := h.le; omega
    have hz := byt_at h.byt k
    by_cases hx : most < l.getD k 0
    · have HQ : Hid (rB most l k = .error 3) := by show _ = _; unfold rB; rw [if_neg (by omega), if_pos hx]
      clear hl
      go_enter Tryz.func106, Tryz.ntmps106
      go_wp2_with fail
      refine (next_ok b o n cap _ l k _ h.cur h.seg hlt).mono ?_
      rintro e w1 ⟨rfl, ho, hc1⟩
      have e3 := (h.errs.only ho h.five h.apart).s3
      generalize l.getD k 0 = z at *
      go_wp2
      refine ⟨rfl, ho, k + 1, hc1, by omega, ?_⟩
      rw [HQ.out]; rfl
    · have HQ : Hid (rB most l k = .ok (.int .i64 (l.getD k 0), 1)) := by show _ = _; unfold rB; rw [if_neg (by omega), if_neg hx]
      clear hl
      go_enter Tryz.func106, Tryz.ntmps106
      go_wp2_with fail
      refine (next_ok b o n cap _ l k _ h.cur h.seg hlt).mono ?_
      rintro e w1 ⟨rfl, ho, hc1⟩
      generalize l.getD k 0 = z at *
      go_wp2
      go_ret
      refine ⟨ho, k + 1, hc1, by omega, ?_⟩
      rw [HQ.out]; exact ⟨rfl, rfl⟩

def allowB (x : Nat) (least most : Int) : Bool := decide (least ≤ (x : Int) ∧ (x : Int) ≤ most)

set_option maxHeartbeats 1000000 in
set_option maxRecDepth 100000 in
theorem allowed_any (x : Nat) (least most : Int) (w : World) (hx : x < 18446744073709551616) (h1 : -9223372036854775808 ≤ least) (h2 : least ≤ 9223372036854775807) (h3 : -9223372036854775808 ≤ most) (h4 : most ≤ 9223372036854775807) :
    Calls Tryz.prog 114 #[.int .u64 (x : Int), .int .i64 least, .int .i64 most] w fun e w' => e = .returned (.bool (allowB x least most)) ∧ w' = w := by
  by_cases hm : most < 0
  · have HQ : Hid (allowB x least most = false) := by show _ = _; simp only [allowB, decide_eq_false_iff_not]; omega
    go_enter Tryz.func114, Tryz.ntmps114
    go_wp2
    go_ret
    exact ⟨by rw [HQ.out]; rfl, rfl⟩
  · by_cases hxm : most < (x : Int)
    · have HQ : Hid (allowB x least most = false) := by show _ = _; simp only [allowB, decide_eq_false_iff_not]; omega
      have hd : decide (most < 0) = false := by simpa using hm
      go_enter Tryz.func114, Tryz.ntmps114
      go_wp2
      go_ret
      exact ⟨by rw [HQ.out]; rfl, rfl⟩
    · have hd : decide (most < 0) = false := by simpa using hm
      by_cases hl : least ≤ 0
      · have HQ : Hid (allowB x least most = true) := by show _ = _; simp only [allowB, decide_eq_true_iff]; omega
        go_enter Tryz.func114, Tryz.ntmps114
        go_wp2
        go_ret
        exact ⟨by rw [HQ.out]; first | rfl | simp [hl], rfl⟩
      · have hd2 : decide (least ≤ 0) = false := by simpa using hl
        have HQ : Hid (allowB x least most = decide (least ≤ (x : Int))) := by show _ = _; simp only [allowB, decide_eq_decide]; omega
        go_enter Tryz.func114, Tryz.ntmps114
        go_wp2
        go_ret
        exact ⟨by rw [HQ.out]; rfl, rfl⟩

theorem conv_zero (ad : Option Addr) (c : Nat) (w : World) : (convert 22 9 (.slice ad 0 c)).run Tryz.prog w = .ok (.string (strOfNums [])) w := by
  rw [run_convert_bytes_string w 22 9 5 ad 0 c Tryz.underlying22 Tryz.underlying5 Tryz.underlying9]
  cases ad with
  | none => rfl
  | some x =>
    exact run_bytesToString (P := Tryz.prog) w x 0 c [] rfl

theorem cur_put {w : World} {b o : Nat} {sa : Option Addr} {n cap k : Nat} (h : Cur w b o sa n cap k) (q x : Nat) (z : Int) (hz : z = (k : Int) + (x : Int)) : Cur ((w.drewN q).setCell ⟨b, o + 1, none⟩ (.int .i64 z)) b o sa n cap (k + x) := by
  subst hz
  obtain ⟨c0, c1, f1⟩ := h
  refine ⟨?_, ?_, ?_⟩
  · rw [World.cell?_setCell_other _ _ _ _ (by simp)]; exact c0
  · rw [World.cell?_setCell_same (w.drewN q) ⟨b, o + 1, none⟩ _ c1]; simp
  · rw [World.frozen?_setCell]; exact f1

set_option maxHeartbeats 2000000 in
set_option maxRecDepth 100000 in
theorem text_any (least most : Int) (b o n cap : Nat) (sa : Option Addr) (l : List Int) (k : Nat) (a : Nat → Addr) (w : World) (h : Ready w b o sa n cap k l a) (hcap : n ≤ cap) (hcm : cap ≤ maxLen)
    (h1 : -9223372036854775808 ≤ least) (h2 : least ≤ 9223372036854775807) (h3 : -9223372036854775808 ≤ most) (h4 : most ≤ 9223372036854775807) :
    Calls Tryz.prog 110 #[.pointer (some ⟨b, o, none⟩), .int .i64 least, .int .i64 most] w fun e w' => Only b (o + 1) w w' ∧ ∃ k', Cur w' b o sa n cap k' ∧ k' ≤ n ∧ OutV a (rT least most l k) e k k' := by
  have hn := h.seg.2.1
  have hl := hide h.seg.1
  unfold maxLen at hcm
  go_enter Tryz.func110, Tryz.ntmps110
  go_wp2_with fail
  refine (number_any b o n cap sa l k a _ h.cur h.seg h.sep h.byt h.le h.errs h.five h.apart).mono ?_
  rintro e w1 ⟨ho, k', hc1, hk', hout⟩
  have hR := h.only ho hc1 hk'
  cases hd : dec (l.drop k) with
  | error i =>
    have HQ : Hid (rT least most l k = .error i) := by show _ = _; unfold rT; rw [hd]
    rw [hd] at hout
    obtain rfl : e = _ := hout
    clear hd
    go_wp2
    refine ⟨rfl, ho, k', hc1, hk', ?_⟩
    rw [HQ.out]; rfl
  | ok p =>
    obtain ⟨x, m⟩ := p
    have hx := dec_lt (byt_drop h.byt k) hd
    have hm := dec_len (byt_drop h.byt k) hd
    rw [hd] at hout
    obtain ⟨rfl, HK0⟩ := hout
    have HK : Hid (k' = k + m) := HK0
    have hpos : 0 < n := by have := hm.2.2; rw [List.length_drop, hl.out] at this; omega
    by_cases hal : least ≤ (x : Int) ∧ (x : Int) ≤ most
    · have HA : Hid (allowB x least most = true) := by show _ = _; simp only [allowB, decide_eq_true_iff]; exact hal
      have hleft : ((n : Int) - (k' : Int)) ≤ 9223372036854775807 := by unfold maxLen at hn; omega
      by_cases hfit : k' + x ≤ n
      · have HQ : Hid (rT least most l k = .ok (.string (strOfNums ((l.drop k').take x)), m + x)) := by
          show _ = _; unfold rT; rw [hd, HK0]; show (if _ then _ else _) = _; rw [if_pos hal, if_pos (by have := hl.out; omega)]
        clear hd HK0 hal
        go_wp2_with fail
        refine (allowed_any x least most _ hx h1 h2 h3 h4).mono ?_
        rintro e w2 ⟨rfl, rfl⟩
        rw [HA.out]
        go_wp2_with fail
        refine (left_any b o n cap _ k' _ hc1 hk' hn).mono ?_
        rintro e w3 ⟨rfl, q, rfl⟩
        have c0 := hc1.1
        have c1 := hc1.2.1
        have f1 := hc1.2.2
        obtain ⟨sb, so, rfl, hcell⟩ := hR.seg.2.2 hpos
        have hcW := cur_put hc1 q x ((k' : Int) + (x : Int)) rfl
        have HO : Hid (Only b (o + 1) w ((w2.drewN q).setCell ⟨b, o + 1, none⟩ (.int .i64 ((k' : Int) + (x : Int))))) := (ho.drewN q).setCell _
        have hsW := (((Only.refl b (o + 1) w2).drewN q).setCell (.int .i64 ((k' : Int) + (x : Int)))).seg hR.seg hR.sep
        go_wp2_with fail
        generalize (w2.drewN q).setCell ⟨b, o + 1, none⟩ (.int .i64 ((k' : Int) + (x : Int))) = W at *
        have d0 := hcW.1
        have d1 : W.cell? ⟨b, o + 1, none⟩ = some (.int .i64 ((k' : Int) + (x : Int))) := by rw [hcW.2.1]; simp
        by_cases hx0 : x = 0
        · subst hx0
          have hcz : ∀ (ad : Option Addr) (c : Nat) (w : World), (convert 22 9 (.slice ad 0 c)).run Tryz.prog w = .ok (.string (strOfNums [])) w := conv_zero
          have hd1 : W.cell? ⟨b, o + 1, none⟩ = some (.int .i64 (k' : Int)) := by rw [d1]; simp
          clear d1 c0 c1 f1 hcell
          have hcc : (cap : Int) - (k' : Int) = 0 ∨ 0 < (cap : Int) - (k' : Int) := by omega
          rcases hcc with hcc | hcc
          · obtain rfl : cap = k' := by omega
            go_quiet (fail)
            go_wp2
            go_ret
            refine ⟨HO.out.drewN _, cap + 0, hcW.drewN _, hfit, ?_⟩
            rw [HQ.out]
            exact ⟨rfl, by have := HK.out; omega⟩
          · have hne : ¬ cap = k' := by omega
            go_quiet (fail)
            go_wp2
            go_ret
            refine ⟨HO.out.drewN _, k' + 0, hcW.drewN _, hfit, ?_⟩
            rw [HQ.out]
            exact ⟨rfl, by have := HK.out; omega⟩
        · have hcv : ∀ nq, (convert 22 9 (.slice (some ⟨sb, so + k', none⟩) x (cap - k'))).run Tryz.prog (W.drewN nq) = .ok (.string (strOfNums ((l.drop k').take x))) (W.drewN nq) := fun nq => by
            have sm := (hsW.drewN nq).mid (k := k') (m := x) hfit
            obtain ⟨b', o', e', hc'⟩ := sm.2.2 (by omega)
            cases e'
            exact run_convert_bytes_arg (P := Tryz.prog) (W.drewN nq) 22 5 Tryz.underlying22 Tryz.underlying5 sb (so + k') x (cap - k') _ sm.1 hc' 9 Tryz.underlying9
          generalize strOfNums ((l.drop k').take x) = S at *
          clear c0 c1 f1 hcell
          have hne : ¬ cap = k' := by omega
          have hcc : 0 < (cap : Int) - (k' : Int) := by omega
          go_quiet (fail)
          go_wp2
          go_ret
          refine ⟨HO.out.drewN _, k' + x, hcW.drewN _, hfit, ?_⟩
          rw [HQ.out]
          exact ⟨rfl, by have := HK.out; omega⟩
      · have HQ : Hid (rT least most l k = .error 0) := by
          show _ = _; unfold rT; rw [hd]; show (if _ then _ else _) = _; rw [if_pos hal, if_neg (by have := hl.out; have := HK.out; omega)]
        clear hd HK0 hal
        go_wp2_with fail
        refine (allowed_any x least most _ hx h1 h2 h3 h4).mono ?_
        rintro e w2 ⟨rfl, rfl⟩
        rw [HA.out]
        go_wp2_with fail
        refine (left_any b o n cap _ k' _ hc1 hk' hn).mono ?_
        rintro e w3 ⟨rfl, q, rfl⟩
        have e0 := hR.errs.s0
        go_wp2
        refine ⟨rfl, ho.drewN _, k', hc1.drewN _, hk', ?_⟩
        rw [HQ.out]; rfl
    · have HA : Hid (allowB x least most = false) := by show _ = _; simp only [allowB, decide_eq_false_iff_not]; exact hal
      have HQ : Hid (rT least most l k = .error 4) := by show _ = _; unfold rT; rw [hd]; exact if_neg hal
      have e4 := hR.errs.s4
      clear hd HK0 hal
      go_wp2_with fail
      refine (allowed_any x least most _ hx h1 h2 h3 h4).mono ?_
      rintro e w2 ⟨rfl, rfl⟩
      rw [HA.out]
      go_wp2
      refine ⟨rfl, ho, k', hc1, hk', ?_⟩
      rw [HQ.out]; rfl
end Go.Proofs.YtbdkelffncmkhaaGreatDoor
/- The reader in memory, and the contracts of giveUp, Err, Left and Close. -/
namespace Go.Proofs.YtbdkelffncmkhaaGreatDoor
open Go.RowKit Go.Wire1

/-- A reader: its cursor, its fault. -/
structure Rdr (w : World) (b : Nat) (sa : Option Addr) (n cap k : Nat) (f : Int) (l : List Int) (a : Nat → Addr) : Prop where
  ready : Ready w b 0 sa n cap k l a
  fault : w.cell? ⟨b, 2, none⟩ = some (.int .i64 f)
  thaw : w.frozen? ⟨b, 2, none⟩ = false
  capLe : n ≤ cap
  capMax : cap ≤ maxLen

/-- Of what was there nothing but block b has turned. -/
structure Touch (b : Nat) (w w' : World) : Prop where
  os : w'.os = w.os
  tape : w'.tape = w.tape
  output : w'.output = w.output
  size : w.heap.size ≤ w'.heap.size
  block : ∀ k, k < w.heap.size → k ≠ b → w'.heap[k]? = w.heap[k]?

theorem Touch.refl (b : Nat) (w : World) : Touch b w w := ⟨rfl, rfl, rfl, Nat.le_refl _, fun _ _ _ => rfl⟩
theorem Touch.trans {b : Nat} {x y z : World} (h : Touch b x y) (k : Touch b y z) : Touch b x z :=
  ⟨k.os.trans h.os, k.tape.trans h.tape, k.output.trans h.output, Nat.le_trans h.size k.size, fun i hi hb => (k.block i (Nat.lt_of_lt_of_le hi h.size) hb).trans (h.block i hi hb)⟩
theorem Touch.ofBelow {b : Nat} {x y : World} (h : Below x.heap.size x y) : Touch b x y := ⟨h.os, h.tape, h.output, h.size, fun i hi _ => h.block i hi⟩
theorem Touch.ofOnly {b p : Nat} {x y : World} (h : Only b p x y) : Touch b x y := ⟨h.os, h.tape, h.output, by rw [h.size]; exact Nat.le_refl _, fun i _ hb => h.block i hb⟩
theorem Touch.drewN {b : Nat} {x y : World} (h : Touch b x y) (q : Nat) : Touch b x (y.drewN q) := ⟨h.os, h.tape, h.output, h.size, h.block⟩
theorem Touch.below {b : Nat} {w0 x y : World} (h : Touch b x y) (hB : w0.heap.size ≤ b) (h0 : Below w0.heap.size w0 x) : Below w0.heap.size w0 y :=
  ⟨h.os.trans h0.os, h.tape.trans h0.tape, h.output.trans h0.output, Nat.le_trans h0.size h.size, fun i hi => (h.block i (Nat.lt_of_lt_of_le hi h0.size) (by omega)).trans (h0.block i hi)⟩
theorem Touch.setNew {b c o : Nat} {x y : World} (h : Touch b x y) (v : Value) (hc : x.heap.size ≤ c) : Touch b x (y.setCell ⟨c, o, none⟩ v) :=
  ⟨h.os, h.tape, h.output, by simpa [World.setCell] using h.size, fun i hi hb => (Below.heap_setCell _ _ _ _ (by show i ≠ c; omega)).trans (h.block i hi hb)⟩
theorem Touch.setB {b o : Nat} {x y : World} (h : Touch b x y) (v : Value) : Touch b x (y.setCell ⟨b, o, none⟩ v) :=
  ⟨h.os, h.tape, h.output, by simpa [World.setCell] using h.size, fun i hi hb => (Below.heap_setCell _ _ _ _ hb).trans (h.block i hi hb)⟩
theorem Touch.seg {b : Nat} {w w' : World} (h : Touch b w w') {a : Option Addr} {n : Nat} {l : List Int} (hs : Seg w a n l) (hsep : ∀ x, a = some x → 0 < n → x.block ≠ b) : Seg w' a n l := by
  refine ⟨hs.1, hs.2.1, fun hn => ?_⟩
  obtain ⟨c, off, rfl, hc⟩ := hs.2.2 hn
  exact ⟨c, off, rfl, fun j hj => by rw [World.cell?_of_block (w := w) (h.block c (cell_lt (hc j hj)) (hsep _ rfl hn))]; exact hc j hj⟩
theorem Touch.errs {b : Nat} {w w' : World} {a : Nat → Addr} (h : Touch b w w') (he : Errs w a) (h5 : 7 ≤ b) (hs : ∀ i, i < 5 → (a i).block ≠ b) : Errs w' a := by
  have h5' := he.five
  have key : ∀ g, g < 7 → w'.cell? ⟨g, 0, none⟩ = w.cell? ⟨g, 0, none⟩ := fun g hg => World.cell?_of_block (w := w) (h.block g (by omega) (by omega))
  exact ⟨(key _ (by decide)).trans he.s0, (key _ (by decide)).trans he.s1, (key _ (by decide)).trans he.s2, (key _ (by decide)).trans he.s3, (key _ (by decide)).trans he.s4, fun i hi => by
    obtain ⟨c, t, e⟩ := he.blk i hi; exact ⟨c, t, (h.block _ (he.lt i hi) (hs i hi)).trans e⟩, he.ne, Nat.le_trans he.room h.size⟩

theorem Rdr.lt {w : World} {b : Nat} {sa : Option Addr} {n cap k : Nat} {f : Int} {l : List Int} {a : Nat → Addr} (h : Rdr w b sa n cap k f l a) : b < w.heap.size := cell_lt h.fault

/-- A reader in a world that has other new blocks, and other cells of its own. -/
theorem Rdr.moved {w w' : World} {b : Nat} {sa : Option Addr} {n cap k k' : Nat} {f f' : Int} {l : List Int} {a : Nat → Addr} (h : Rdr w b sa n cap k f l a) (ht : Touch b w w')
    (c0 : w'.cell? ⟨b, 0, none⟩ = some (.slice sa n cap)) (c1 : w'.cell? ⟨b, 1, none⟩ = some (.int .i64 (k' : Int))) (f1 : w'.frozen? ⟨b, 1, none⟩ = false)
    (c2 : w'.cell? ⟨b, 2, none⟩ = some (.int .i64 f')) (f2 : w'.frozen? ⟨b, 2, none⟩ = false) (hk : k' ≤ n) : Rdr w' b sa n cap k' f' l a :=
  ⟨⟨⟨c0, c1, f1⟩, ht.seg h.ready.seg h.ready.sep, h.ready.sep, h.ready.byt, hk, ht.errs h.ready.errs h.ready.five h.ready.apart, h.ready.five, h.ready.apart⟩, c2, f2, h.capLe, h.capMax⟩
theorem Rdr.below {w w' : World} {b : Nat} {sa : Option Addr} {n cap k : Nat} {f : Int} {l : List Int} {a : Nat → Addr} {C : Nat} (h : Rdr w b sa n cap k f l a) (hb : Below C w w') (hC : w.heap.size ≤ C) : Rdr w' b sa n cap k f l a := by
  have hlt := h.lt
  have e : w'.heap[b]? = w.heap[b]? := hb.block b (by omega)
  exact ⟨⟨⟨(World.cell?_of_block (a := ⟨b, 0, none⟩) e).trans h.ready.cur.1, (World.cell?_of_block (a := ⟨b, 0 + 1, none⟩) e).trans h.ready.cur.2.1, (World.frozen?_of_block (a := ⟨b, 0 + 1, none⟩) e).trans h.ready.cur.2.2⟩, h.ready.seg.below hb hC, h.ready.sep, h.ready.byt, h.ready.le, h.ready.errs.below hb hC, h.ready.five, h.ready.apart⟩,
    (World.cell?_of_block (a := ⟨b, 2, none⟩) e).trans h.fault, (World.frozen?_of_block (a := ⟨b, 2, none⟩) e).trans h.thaw, h.capLe, h.capMax⟩
theorem Rdr.drewN {w : World} {b : Nat} {sa : Option Addr} {n cap k : Nat} {f : Int} {l : List Int} {a : Nat → Addr} (h : Rdr w b sa n cap k f l a) (q : Nat) : Rdr (w.drewN q) b sa n cap k f l a :=
  ⟨⟨h.ready.cur, h.ready.seg, h.ready.sep, h.ready.byt, h.ready.le, h.ready.errs.drewN q, h.ready.five, h.ready.apart⟩, h.fault, h.thaw, h.capLe, h.capMax⟩
/-- A reader beside another one that is touched. -/
theorem Rdr.beside {w w' : World} {b c : Nat} {sa : Option Addr} {n cap k : Nat} {f : Int} {l : List Int} {a : Nat → Addr} (h : Rdr w b sa n cap k f l a) (ht : Touch c w w') (hbc : b ≠ c) (hsc : ∀ x, sa = some x → 0 < n → x.block ≠ c) (h5 : 7 ≤ c) (hac : ∀ i, i < 5 → (a i).block ≠ c) : Rdr w' b sa n cap k f l a := by
  have e : w'.heap[b]? = w.heap[b]? := ht.block b h.lt hbc
  exact ⟨⟨⟨(World.cell?_of_block (a := ⟨b, 0, none⟩) e).trans h.ready.cur.1, (World.cell?_of_block (a := ⟨b, 0 + 1, none⟩) e).trans h.ready.cur.2.1, (World.frozen?_of_block (a := ⟨b, 0 + 1, none⟩) e).trans h.ready.cur.2.2⟩, ht.seg h.ready.seg hsc, h.ready.sep, h.ready.byt, h.ready.le, ht.errs h.ready.errs h5 hac, h.ready.five, h.ready.apart⟩,
    (World.cell?_of_block (a := ⟨b, 2, none⟩) e).trans h.fault, (World.frozen?_of_block (a := ⟨b, 2, none⟩) e).trans h.thaw, h.capLe, h.capMax⟩

set_option maxHeartbeats 400000 in
set_option maxRecDepth 100000 in
theorem err_any (b n cap k : Nat) (f : Int) (sa : Option Addr) (l : List Int) (a : Nat → Addr) (w : World) (h : Rdr w b sa n cap k f l a) :
    Calls Tryz.prog 71 #[.pointer (some ⟨b, 0, none⟩)] w fun e w' => e = .returned (.tuple #[.int .i64 f, .int .i64 (k : Int)]) ∧ ∃ q, w' = w.drewN q := by
  have c1 : w.cell? ⟨b, 1, none⟩ = _ := h.ready.cur.2.1
  have c2 := h.fault
  go_enter Tryz.func71, Tryz.ntmps71
  go_wp2
  go_quiet (fail)
  go_wp2
  go_ret2
  exact ⟨rfl, _, rfl⟩

end Go.Proofs.YtbdkelffncmkhaaGreatDoor
/- The contract of giveUp, and what the reading methods share. -/
namespace Go.Proofs.YtbdkelffncmkhaaGreatDoor
open Go.RowKit Go.Wire1

set_option maxHeartbeats 400000 in
set_option maxRecDepth 100000 in
theorem giveUp_any (b : Nat) (k x f : Int) (i : Nat) (hi : i < 5) (a : Nat → Addr) (w : World) (he : Errs w a) (h5 : 7 ≤ b) (hab : ∀ i, i < 5 → (a i).block ≠ b)
    (c1 : w.cell? ⟨b, 1, none⟩ = some (.int .i64 x)) (f1 : w.frozen? ⟨b, 1, none⟩ = false) (c2 : w.cell? ⟨b, 2, none⟩ = some (.int .i64 f)) (f2 : w.frozen? ⟨b, 2, none⟩ = false) :
    Calls Tryz.prog 105 #[.pointer (some ⟨b, 0, none⟩), .int .i64 k, errV (a i)] w fun e w' => e = .returned (.tuple #[]) ∧ w' = (w.setCell ⟨b, 1, none⟩ (.int .i64 k)).setCell ⟨b, 2, none⟩ (.int .i64 (11 + (i : Int))) := by
  have he' : Errs (w.setCell ⟨b, 1, none⟩ (.int .i64 k)) a := he.only ((Only.refl b 1 w).setCell _) h5 hab
  go_enter Tryz.func105, Tryz.ntmps105
  go_wp2_with fail
  refine (errno_any i hi a _ he').mono ?_
  rintro e w1 ⟨rfl, rfl⟩
  go_wp2
  go_end0
  exact ⟨rfl, rfl⟩

/-- What a reading method answers, and what it leaves: Z where it answers nothing. -/
def Meth (Z : Value) (r : Except Nat (Value × Nat)) (k : Nat) (f : Int) : Value × Nat × Int :=
  if f = 0 then (match r with | .ok (v, m) => (v, k + m, 0) | .error i => (Z, k, 11 + (i : Int))) else (Z, k, f)

theorem meth_broken {Z : Value} {r : Except Nat (Value × Nat)} {k : Nat} {f : Int} (h : ¬ f = 0) : Meth Z r k f = (Z, k, f) := by unfold Meth; rw [if_neg h]
theorem meth_ok {Z : Value} {r : Except Nat (Value × Nat)} {k m : Nat} {v : Value} (h : r = .ok (v, m)) : Meth Z r k 0 = (v, k + m, 0) := by unfold Meth; rw [if_pos rfl, h]
theorem meth_err {Z : Value} {r : Except Nat (Value × Nat)} {k i : Nat} (h : r = .error i) : Meth Z r k 0 = (Z, k, 11 + (i : Int)) := by unfold Meth; rw [if_pos rfl, h]

/-- The three blocks that a reading method makes: the receiver's variable, the result's, the start's. -/
theorem new3 (w : World) (v0 v1 v2 : Value) (t0 t1 t2 : TypeId) :
    Below w.heap.size w (((w.alloc (.cells #[v0] t0)).alloc (.cells #[v1] t1)).alloc (.cells #[v2] t2)) ∧
    (((w.alloc (.cells #[v0] t0)).alloc (.cells #[v1] t1)).alloc (.cells #[v2] t2)).cell? ⟨w.heap.size, 0, none⟩ = some v0 ∧
    (((w.alloc (.cells #[v0] t0)).alloc (.cells #[v1] t1)).alloc (.cells #[v2] t2)).cell? ⟨w.heap.size + 1, 0, none⟩ = some v1 ∧
    (((w.alloc (.cells #[v0] t0)).alloc (.cells #[v1] t1)).alloc (.cells #[v2] t2)).cell? ⟨w.heap.size + 1 + 1, 0, none⟩ = some v2 ∧
    (((w.alloc (.cells #[v0] t0)).alloc (.cells #[v1] t1)).alloc (.cells #[v2] t2)).frozen? ⟨w.heap.size + 1, 0, none⟩ = false := by
  refine ⟨?_, ?_, ?_, ?_, ?_⟩
  · exact (((Below.refl _ _).alloc (Nat.le_refl _) _).alloc (by simp) _).alloc (by simp; omega) _
  · rw [World.cell?_alloc_past _ _ _ (by simp; omega), World.cell?_alloc_past _ _ _ (by simp), World.cell?_alloc_at _ _ _ _ rfl]; rfl
  · rw [World.cell?_alloc_past _ _ _ (by simp), World.cell?_alloc_at _ _ _ _ (by simp)]; rfl
  · rw [World.cell?_alloc_at _ _ _ _ (by simp)]; rfl
  · rw [World.frozen?_alloc_past _ _ _ (by simp)]; exact World.frozen?_alloc_at _ _ _ _ (by simp)

end Go.Proofs.YtbdkelffncmkhaaGreatDoor
