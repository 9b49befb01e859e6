/- Texts of the proof, joined. -/
import Derived.Test.YtlhididcanedhaaGreatDoorJ07
import Derived.Laws.BytesArg
import Derived.Test.YtlhididcanedhaaGreatDoorChecked
import Derived.WalkKit
import Derived.LaidEql
import Derived.Stop.Asserts
import Derived.RowKitTokens
/- The contracts of the cursor's numberTo, byteTo and text, and of lengthAllowed. -/
namespace Go.Proofs.YtlhididcanedhaaGreatDoor
open Go.RowKit Go.Wire1

/-- What an inner reading comes to: a value and the place behind it; or a panic with a sentinel. -/
def OutV (a : Nat → Addr) (r : Except Nat (Value × Nat)) (e : Ending) (k k' : Nat) : Prop :=
  match r with
  | .ok (v, m) => e = .returned v ∧ k' = k + m
  | .error i => e = .panicked [{ v := errV (a i), recovered := false }]

def rU (most : Nat) (l : List Int) (k : Nat) : Except Nat (Value × Nat) :=
  match dec (l.drop k) with
  | .ok (x, m) => if most < x then .error 3 else .ok (.int .u64 (x : Int), m)
  | .error i => .error i
def rI (l : List Int) (k : Nat) : Except Nat (Value × Nat) :=
  match dec (l.drop k) with
  | .ok (x, m) => .ok (.int .i64 (unzig x), m)
  | .error i => .error i
def rB (most : Int) (l : List Int) (k : Nat) : Except Nat (Value × Nat) :=
  if l.length ≤ k then .error 0 else if most < l.getD k 0 then .error 3 else .ok (.int .i64 (l.getD k 0), 1)
def rT (least most : Int) (l : List Int) (k : Nat) : Except Nat (Value × Nat) :=
  match dec (l.drop k) with
  | .ok (x, m) => if least ≤ (x : Int) ∧ (x : Int) ≤ most then (if k + m + x ≤ l.length then .ok (.string (strOfNums ((l.drop (k + m)).take x)), m + x) else .error 0) else .error 4
  | .error i => .error i

/-- What all inner readings ask. -/
structure Ready (w : World) (b o : Nat) (sa : Option Addr) (n cap k : Nat) (l : List Int) (a : Nat → Addr) : Prop where
  cur : Cur w b o sa n cap k
  seg : Seg w sa n l
  sep : ∀ x, sa = some x → 0 < n → x.block ≠ b
  byt : Byt l
  le : k ≤ n
  errs : Errs w a
  five : 8 ≤ b
  apart : ∀ i, i < 5 → (a i).block ≠ b

theorem Ready.only {w w' : World} {b o : Nat} {sa : Option Addr} {n cap k k' : Nat} {l : List Int} {a : Nat → Addr} (h : Ready w b o sa n cap k l a) (ho : Only b (o + 1) w w') (hc : Cur w' b o sa n cap k') (hk : k' ≤ n) : Ready w' b o sa n cap k' l a :=
  ⟨hc, ho.seg h.seg h.sep, h.sep, h.byt, hk, h.errs.only ho h.five h.apart, h.five, h.apart⟩

set_option maxHeartbeats 1000000 in
set_option maxRecDepth 100000 in
theorem numberTo_any (most : Nat) (b o n cap : Nat) (sa : Option Addr) (l : List Int) (k : Nat) (a : Nat → Addr) (w : World) (h : Ready w b o sa n cap k l a) :
    Calls Tryz.prog 182 #[.pointer (some ⟨b, o, none⟩), .int .u64 (most : Int)] w fun e w' => Only b (o + 1) w w' ∧ ∃ k', Cur w' b o sa n cap k' ∧ k' ≤ n ∧ OutV a (rU most l k) e k k' := by
  go_enter Tryz.func182, Tryz.ntmps182
  go_wp2_with fail
  refine (number_any b o n cap sa l k a _ h.cur h.seg h.sep h.byt h.le h.errs h.five h.apart).mono ?_
  rintro e w1 ⟨ho, k', hc1, hk', hout⟩
  have e3 := (h.errs.only ho h.five h.apart).s3
  cases hd : dec (l.drop k) with
  | error i =>
    have HQ : Hid (rU most l k = .error i) := by show _ = _; unfold rU; rw [hd]
    rw [hd] at hout
    obtain rfl : e = _ := hout
    clear hd
    go_wp2
    refine ⟨rfl, ho, k', hc1, hk', ?_⟩
    rw [HQ.out]; rfl
  | ok p =>
    obtain ⟨x, m⟩ := p
    rw [hd] at hout
    obtain ⟨rfl, HK0⟩ := hout
    have HK : Hid (k' = k + m) := HK0
    clear HK0
    by_cases hx : most < x
    · have HQ : Hid (rU most l k = .error 3) := by show _ = _; unfold rU; rw [hd]; exact if_pos hx
      clear hd
      go_wp2
      refine ⟨rfl, ho, k', hc1, hk', ?_⟩
      rw [HQ.out]; rfl
    · have HQ : Hid (rU most l k = .ok (.int .u64 (x : Int), m)) := by show _ = _; unfold rU; rw [hd]; exact if_neg hx
      clear hd
      go_wp2
      go_ret
      refine ⟨ho, k', hc1, hk', ?_⟩
      rw [HQ.out]; exact ⟨rfl, HK.out⟩

set_option maxHeartbeats 1000000 in
set_option maxRecDepth 100000 in
theorem byteTo_any (most : Int) (b o n cap : Nat) (sa : Option Addr) (l : List Int) (k : Nat) (a : Nat → Addr) (w : World) (h : Ready w b o sa n cap k l a) :
    Calls Tryz.prog 180 #[.pointer (some ⟨b, o, none⟩), .int .i64 most] w fun e w' => Only b (o + 1) w w' ∧ ∃ k', Cur w' b o sa n cap k' ∧ k' ≤ n ∧ OutV a (rB most l k) e k k' := by
  have hn := h.seg.2.1
  have hl := h.seg.1
  by_cases hkn : k = n
  · subst hkn
    have HQ : Hid (rB most l k = .error 0) := by show _ = _; unfold rB; exact if_pos (by omega)
    clear hl
    go_enter Tryz.func180, Tryz.ntmps180
    go_wp2_with fail
    refine (next_end b o k cap _ a _ h.cur hn h.errs).mono ?_
    rintro e w1 ⟨rfl, ho, hc1⟩
    refine ⟨rfl, ho, k, hc1, Nat.le_refl _, ?_⟩
    rw [HQ.out]; rfl
  · have hlt : k < n := by have := h.le; omega
    have hz := byt_at h.byt k
    by_cases hx : most < l.getD k 0
    · have HQ : Hid (rB most l k = .error 3) := by show _ = _; unfold rB; rw [if_neg (by omega), if_pos hx]
      clear hl
      go_enter Tryz.func180, Tryz.ntmps180
      go_wp2_with fail
      refine (next_ok b o n cap _ l k _ h.cur h.seg hlt).mono ?_
      rintro e w1 ⟨rfl, ho, hc1⟩
      have e3 := (h.errs.only ho h.five h.apart).s3
      generalize l.getD k 0 = z at *
      go_wp2
      refine ⟨rfl, ho, k + 1, hc1, by omega, ?_⟩
      rw [HQ.out]; rfl
    · have HQ : Hid (rB most l k = .ok (.int .i64 (l.getD k 0), 1)) := by show _ = _; unfold rB; rw [if_neg (by omega), if_neg hx]
      clear hl
      go_enter Tryz.func180, Tryz.ntmps180
      go_wp2_with fail
      refine (next_ok b o n cap _ l k _ h.cur h.seg hlt).mono ?_
      rintro e w1 ⟨rfl, ho, hc1⟩
      generalize l.getD k 0 = z at *
      go_wp2
      go_ret
      refine ⟨ho, k + 1, hc1, by omega, ?_⟩
      rw [HQ.out]; exact ⟨rfl, rfl⟩

def allowB (x : Nat) (least most : Int) : Bool := decide (least ≤ (x : Int) ∧ (x : Int) ≤ most)

set_option maxHeartbeats 1000000 in
set_option maxRecDepth 100000 in
theorem allowed_any (x : Nat) (least most : Int) (w : World) (hx : x < 18446744073709551616) (h1 : -9223372036854775808 ≤ least) (h2 : least ≤ 9223372036854775807) (h3 : -9223372036854775808 ≤ most) (h4 : most ≤ 9223372036854775807) :
    Calls Tryz.prog 191 #[.int .u64 (x : Int), .int .i64 least, .int .i64 most] w fun e w' => e = .returned (.bool (allowB x least most)) ∧ w' = w := by
  by_cases hm : most < 0
  · have HQ : Hid (allowB x least most = false) := by show _ = _; simp only [allowB, decide_eq_false_iff_not]; omega
    go_enter Tryz.func191, Tryz.ntmps191
    go_wp2
    go_ret
    exact ⟨by rw [HQ.out]; rfl, rfl⟩
  · by_cases hxm : most < (x : Int)
    · have HQ : Hid (allowB x least most = false) := by show _ = _; simp only [allowB, decide_eq_false_iff_not]; omega
      have hd : decide (most < 0) = false := by simpa using hm
      go_enter Tryz.func191, Tryz.ntmps191
      go_wp2
      go_ret
      exact ⟨by rw [HQ.out]; rfl, rfl⟩
    · have hd : decide (most < 0) = false := by simpa using hm
      by_cases hl : least ≤ 0
      · have HQ : Hid (allowB x least most = true) := by show _ = _; simp only [allowB, decide_eq_true_iff]; omega
        go_enter Tryz.func191, Tryz.ntmps191
        go_wp2
        go_ret
        exact ⟨by rw [HQ.out]; first | rfl | simp [hl], rfl⟩
      · have hd2 : decide (least ≤ 0) = false := by simpa using hl
        have HQ : Hid (allowB x least most = decide (least ≤ (x : Int))) := by show _ = _; simp only [allowB, decide_eq_decide]; omega
        go_enter Tryz.func191, Tryz.ntmps191
        go_wp2
        go_ret
        exact ⟨by rw [HQ.out]; rfl, rfl⟩

theorem conv_zero (ad : Option Addr) (c : Nat) (w : World) : (convert 31 9 (.slice ad 0 c)).run Tryz.prog w = .ok (.string (strOfNums [])) w := by
  rw [run_convert_bytes_string w 31 9 5 ad 0 c Tryz.underlying31 Tryz.underlying5 Tryz.underlying9]
  cases ad with
  | none => rfl
  | some x =>
    exact run_bytesToString (P := Tryz.prog) w x 0 c [] rfl

theorem cur_put {w : World} {b o : Nat} {sa : Option Addr} {n cap k : Nat} (h : Cur w b o sa n cap k) (q x : Nat) (z : Int) (hz : z = (k : Int) + (x : Int)) : Cur ((w.drewN q).setCell ⟨b, o + 1, none⟩ (.int .i64 z)) b o sa n cap (k + x) := by
  subst hz
  obtain ⟨c0, c1, f1⟩ := h
  refine ⟨?_, ?_, ?_⟩
  · rw [World.cell?_setCell_other _ _ _ _ (by simp)]; exact c0
  · rw [World.cell?_setCell_same (w.drewN q) ⟨b, o + 1, none⟩ _ c1]; simp
  · rw [World.frozen?_setCell]; exact f1

set_option maxHeartbeats 2000000 in
set_option maxRecDepth 100000 in
theorem text_any (least most : Int) (b o n cap : Nat) (sa : Option Addr) (l : List Int) (k : Nat) (a : Nat → Addr) (w : World) (h : Ready w b o sa n cap k l a) (hcap : n ≤ cap) (hcm : cap ≤ maxLen)
    (h1 : -9223372036854775808 ≤ least) (h2 : least ≤ 9223372036854775807) (h3 : -9223372036854775808 ≤ most) (h4 : most ≤ 9223372036854775807) :
    Calls Tryz.prog 184 #[.pointer (some ⟨b, o, none⟩), .int .i64 least, .int .i64 most] w fun e w' => Only b (o + 1) w w' ∧ ∃ k', Cur w' b o sa n cap k' ∧ k' ≤ n ∧ OutV a (rT least most l k) e k k' := by
  have hn := h.seg.2.1
  have hl := hide h.seg.1
  unfold maxLen at hcm
  go_enter Tryz.func184, Tryz.ntmps184
  go_wp2_with fail
  refine (number_any b o n cap sa l k a _ h.cur h.seg h.sep h.byt h.le h.errs h.five h.apart).mono ?_
  rintro e w1 ⟨ho, k', hc1, hk', hout⟩
  have hR := h.only ho hc1 hk'
  cases hd : dec (l.drop k) with
  | error i =>
    have HQ : Hid (rT least most l k = .error i) := by show _ = _; unfold rT; rw [hd]
    rw [hd] at hout
    obtain rfl : e = _ := hout
    clear hd
    go_wp2
    refine ⟨rfl, ho, k', hc1, hk', ?_⟩
    rw [HQ.out]; rfl
  | ok p =>
    obtain ⟨x, m⟩ := p
    have hx := dec_lt (byt_drop h.byt k) hd
    have hm := dec_len (byt_drop h.byt k) hd
    rw [hd] at hout
    obtain ⟨rfl, HK0⟩ := hout
    have HK : Hid (k' = k + m) := HK0
    have hpos : 0 < n := by have := hm.2.2; rw [List.length_drop, hl.out] at this; omega
    by_cases hal : least ≤ (x : Int) ∧ (x : Int) ≤ most
    · have HA : Hid (allowB x least most = true) := by show _ = _; simp only [allowB, decide_eq_true_iff]; exact hal
      have hleft : ((n : Int) - (k' : Int)) ≤ 9223372036854775807 := by unfold maxLen at hn; omega
      by_cases hfit : k' + x ≤ n
      · have HQ : Hid (rT least most l k = .ok (.string (strOfNums ((l.drop k').take x)), m + x)) := by
          show _ = _; unfold rT; rw [hd, HK0]; show (if _ then _ else _) = _; rw [if_pos hal, if_pos (by have := hl.out; omega)]
        clear hd HK0 hal
        go_wp2_with fail
        refine (allowed_any x least most _ hx h1 h2 h3 h4).mono ?_
        rintro e w2 ⟨rfl, rfl⟩
        rw [HA.out]
        go_wp2_with fail
        refine (left_any b o n cap _ k' _ hc1 hk' hn).mono ?_
        rintro e w3 ⟨rfl, q, rfl⟩
        have c0 := hc1.1
        have c1 := hc1.2.1
        have f1 := hc1.2.2
        obtain ⟨sb, so, rfl, hcell⟩ := hR.seg.2.2 hpos
        have hcW := cur_put hc1 q x ((k' : Int) + (x : Int)) rfl
        have HO : Hid (Only b (o + 1) w ((w2.drewN q).setCell ⟨b, o + 1, none⟩ (.int .i64 ((k' : Int) + (x : Int))))) := (ho.drewN q).setCell _
        have hsW := (((Only.refl b (o + 1) w2).drewN q).setCell (.int .i64 ((k' : Int) + (x : Int)))).seg hR.seg hR.sep
        go_wp2_with fail
        generalize (w2.drewN q).setCell ⟨b, o + 1, none⟩ (.int .i64 ((k' : Int) + (x : Int))) = W at *
        have d0 := hcW.1
        have d1 : W.cell? ⟨b, o + 1, none⟩ = some (.int .i64 ((k' : Int) + (x : Int))) := by rw [hcW.2.1]; simp
        by_cases hx0 : x = 0
        · subst hx0
          have hcz : ∀ (ad : Option Addr) (c : Nat) (w : World), (convert 31 9 (.slice ad 0 c)).run Tryz.prog w = .ok (.string (strOfNums [])) w := conv_zero
          have hd1 : W.cell? ⟨b, o + 1, none⟩ = some (.int .i64 (k' : Int)) := by rw [d1]; simp
          clear d1 c0 c1 f1 hcell
          have hcc : (cap : Int) - (k' : Int) = 0 ∨ 0 < (cap : Int) - (k' : Int) := by omega
          rcases hcc with hcc | hcc
          · obtain rfl : cap = k' := by omega
            go_quiet (fail)
            go_wp2
            go_ret
            refine ⟨HO.out.drewN _, cap + 0, hcW.drewN _, hfit, ?_⟩
            rw [HQ.out]
            exact ⟨rfl, by have := HK.out; omega⟩
          · have hne : ¬ cap = k' := by omega
            go_quiet (fail)
            go_wp2
            go_ret
            refine ⟨HO.out.drewN _, k' + 0, hcW.drewN _, hfit, ?_⟩
            rw [HQ.out]
            exact ⟨rfl, by have := HK.out; omega⟩
        · have hcv : ∀ nq, (convert 31 9 (.slice (some ⟨sb, so + k', none⟩) x (cap - k'))).run Tryz.prog (W.drewN nq) = .ok (.string (strOfNums ((l.drop k').take x))) (W.drewN nq) := fun nq => by
            have sm := (hsW.drewN nq).mid (k := k') (m := x) hfit
            obtain ⟨b', o', e', hc'⟩ := sm.2.2 (by omega)
            cases e'
            exact run_convert_bytes_arg (P := Tryz.prog) (W.drewN nq) 31 5 Tryz.underlying31 Tryz.underlying5 sb (so + k') x (cap - k') _ sm.1 hc' 9 Tryz.underlying9
          generalize strOfNums ((l.drop k').take x) = S at *
          clear c0 c1 f1 hcell
          have hne : ¬ cap = k' := by omega
          have hcc : 0 < (cap : Int) - (k' : Int) := by omega
          go_quiet (fail)
          go_wp2
          go_ret
          refine ⟨HO.out.drewN _, k' + x, hcW.drewN _, hfit, ?_⟩
          rw [HQ.out]
          exact ⟨rfl, by have := HK.out; omega⟩
      · have HQ : Hid (rT least most l k = .error 0) := by
          show _ = _; unfold rT; rw [hd]; show (if _ then _ else _) = _; rw [if_pos hal, if_neg (by have := hl.out; have := HK.out; omega)]
        clear hd HK0 hal
        go_wp2_with fail
        refine (allowed_any x least most _ hx h1 h2 h3 h4).mono ?_
        rintro e w2 ⟨rfl, rfl⟩
        rw [HA.out]
        go_wp2_with fail
        refine (left_any b o n cap _ k' _ hc1 hk' hn).mono ?_
        rintro e w3 ⟨rfl, q, rfl⟩
        have e0 := hR.errs.s0
        go_wp2
        refine ⟨rfl, ho.drewN _, k', hc1.drewN _, hk', ?_⟩
        rw [HQ.out]; rfl
    · have HA : Hid (allowB x least most = false) := by show _ = _; simp only [allowB, decide_eq_false_iff_not]; exact hal
      have HQ : Hid (rT least most l k = .error 4) := by show _ = _; unfold rT; rw [hd]; exact if_neg hal
      have e4 := hR.errs.s4
      clear hd HK0 hal
      go_wp2_with fail
      refine (allowed_any x least most _ hx h1 h2 h3 h4).mono ?_
      rintro e w2 ⟨rfl, rfl⟩
      rw [HA.out]
      go_wp2
      refine ⟨rfl, ho, k', hc1, hk', ?_⟩
      rw [HQ.out]; rfl
end Go.Proofs.YtlhididcanedhaaGreatDoor
/- The contracts of errors.Is at two sentinels of the same making: the very same one, or two different ones. -/
namespace Go.Proofs.YtlhididcanedhaaGreatDoor
open Go.RowKit Go.Extern.Stop Go.Stop Go.Extern

def isCmp (t : TypeId) : Sem Value := do
  Extern.Rtype.noPackHeld "Comparable" t
  pure (.bool (← typeInfo t).comparable)
theorem isTypeOf (v : Value) (w : World) : (Extern.ReflectliteType.typeOf #[.iface 220 v]).run Tryz.prog w = .ok (.iface 210 (.agg #[.pointer (some ⟨8, 220, none⟩)])) w := by kernel_rfl
theorem isComparable (w : World) : (Extern.ReflectliteType.method isCmp #[.agg #[.pointer (some ⟨8, 220, none⟩)]]).run Tryz.prog w = .ok (.bool true) w := by kernel_rfl
theorem isComp : (Tryz.prog.info? 220).map (·.comparable) = some true := by kernel_rfl
theorem isSize : (Tryz.prog.info? 244).map (·.size) = some 1 := by kernel_rfl
theorem noIsE (v : Value) (xT : TypeId) (w : World) : (Instr.typeAssert (.iface 220 v) xT 212 true).run Tryz.prog w = .ok (.tuple #[.nilIface, .bool false]) w := run_typeAssert_lacksB Tryz.underlying212 (by kernel_rfl) (by kernel_rfl) v xT w
theorem noUnwrapE (v : Value) (xT : TypeId) (w : World) : (Instr.typeAssert (.iface 220 v) xT 215 true).run Tryz.prog w = .ok (.tuple #[.nilIface, .bool false]) w := run_typeAssert_lacksB Tryz.underlying215 (by kernel_rfl) (by kernel_rfl) v xT w
theorem noUnwrapsE (v : Value) (xT : TypeId) (w : World) : (Instr.typeAssert (.iface 220 v) xT 217 true).run Tryz.prog w = .ok (.tuple #[.nilIface, .bool false]) w := run_typeAssert_lacksB Tryz.underlying217 (by kernel_rfl) (by kernel_rfl) v xT w
theorem isMethodComparable (v : Value) (w : World) : (Go.method 356 210 v "Comparable").run Tryz.prog w = .ok (212, v) w := by kernel_rfl

set_option maxRecDepth 100000 in
set_option maxHeartbeats 1000000 in
/-- errors.Is(x, x). -/
theorem is_same (a : Addr) (w : World) :
    Calls Tryz.prog 175 #[.iface 220 (.pointer (some a)), .iface 220 (.pointer (some a))] w fun e w' => e = .returned (.bool true) ∧ w' = w := by
  obtain ⟨i, hi, hcmp⟩ := Option.map_eq_some_iff.1 isComp
  obtain ⟨j, hj, hjs⟩ := Option.map_eq_some_iff.1 isSize
  have h8 := @run_callFunc_extern Tryz.prog 188 _ Extern.ReflectliteType.typeOf Tryz.func188 (by kernel_rfl) (by kernel_rfl) (by kernel_rfl) (by kernel_rfl)
  have h32 := @run_callFunc_extern Tryz.prog 212 _ (Extern.ReflectliteType.method isCmp) Tryz.func212 (by kernel_rfl) (by kernel_rfl) (by kernel_rfl) (by kernel_rfl)
  have tT := isTypeOf
  have cT := isComparable
  have mR := isMethodComparable
  have heq := run_eql_iface_ptr_same (P := Tryz.prog) w a Tryz.underlying194 Tryz.underlying220 hi hcmp hj
  go_enter Tryz.func175, Tryz.ntmps175
  go_wp2
  refine wp_loop_rounds 1 ?_
  rw [rounds_succ]
  go_wp2
  go_ret
  exact ⟨rfl, rfl⟩

set_option maxRecDepth 100000 in
set_option maxHeartbeats 1000000 in
/-- errors.Is(x, y), two different ones: false. -/
theorem is_other (a b : Addr) (ca cb : Array Value) (ta tb : TypeId) (w : World) (hne : a ≠ b) (ha : w.heap[a.block]? = some (.cells ca ta (0, 0))) (hb : w.heap[b.block]? = some (.cells cb tb (0, 0))) :
    Calls Tryz.prog 175 #[.iface 220 (.pointer (some a)), .iface 220 (.pointer (some b))] w fun e w' => e = .returned (.bool false) ∧ w' = w := by
  obtain ⟨i, hi, hcmp⟩ := Option.map_eq_some_iff.1 isComp
  obtain ⟨j, hj, hjs⟩ := Option.map_eq_some_iff.1 isSize
  have h8 := @run_callFunc_extern Tryz.prog 188 _ Extern.ReflectliteType.typeOf Tryz.func188 (by kernel_rfl) (by kernel_rfl) (by kernel_rfl) (by kernel_rfl)
  have h32 := @run_callFunc_extern Tryz.prog 212 _ (Extern.ReflectliteType.method isCmp) Tryz.func212 (by kernel_rfl) (by kernel_rfl) (by kernel_rfl) (by kernel_rfl)
  have tT := isTypeOf
  have cT := isComparable
  have mR := isMethodComparable
  have nE := noIsE
  have uE := noUnwrapE
  have vE := noUnwrapsE
  have heq := run_eql_iface_ptr_other (P := Tryz.prog) w Tryz.underlying194 Tryz.underlying220 hi hcmp hj (by rw [hjs]; decide) hne ha hb
  go_enter Tryz.func175, Tryz.ntmps175
  go_wp2
  refine wp_loop_rounds 1 ?_
  rw [rounds_succ]
  go_wp2
  go_ret
  exact ⟨rfl, rfl⟩
end Go.Proofs.YtlhididcanedhaaGreatDoor
/- The contract of errnoOf at the five sentinels: each has its own number, 11 to 15. -/
namespace Go.Proofs.YtlhididcanedhaaGreatDoor
open Go.RowKit Go.Wire1 Go.Stop

theorem isError (v : Value) (xT : TypeId) (w : World) : (Instr.typeAssert (.iface 220 v) xT 194 true).run Tryz.prog w = .ok (.tuple #[.iface 220 v, .bool true]) w := run_typeAssert_hasB Tryz.underlying194 (by kernel_rfl) v xT w

set_option maxHeartbeats 1000000 in
set_option maxRecDepth 100000 in
theorem errno_any (i : Nat) (hi : i < 5) (a : Nat → Addr) (w : World) (he : Errs w a) :
    Calls Tryz.prog 165 #[errV (a i)] w fun e w' => e = .returned (.int .i64 (11 + (i : Int))) ∧ w' = w := by
  have hE := isError
  obtain ⟨s0, s1, s2, s3, s4, hb, hne⟩ := he
  have no : ∀ j, j < 5 → j ≠ i → Calls Tryz.prog 175 #[errV (a i), errV (a j)] w fun e w' => e = .returned (.bool false) ∧ w' = w := fun j hj hji => by
    obtain ⟨c, t, h1⟩ := hb i hi
    obtain ⟨c', t', h2⟩ := hb j hj
    exact is_other (a i) (a j) c c' t t' w (hne i j hi hj (fun e => hji e.symm)) h1 h2
  have NO : Hid (∀ j, j < 5 → j ≠ i → Calls Tryz.prog 175 #[errV (a i), errV (a j)] w fun e w' => e = .returned (.bool false) ∧ w' = w) := no
  clear no hb hne
  rcases (by omega : i = 0 ∨ i = 1 ∨ i = 2 ∨ i = 3 ∨ i = 4) with rfl | rfl | rfl | rfl | rfl
  · go_enter Tryz.func165, Tryz.ntmps165
    go_wp2_with fail
    refine (is_same (a 0) _).mono ?_
    rintro e w1 ⟨rfl, rfl⟩
    go_wp2
    go_ret
    exact ⟨rfl, rfl⟩
  · go_enter Tryz.func165, Tryz.ntmps165
    go_wp2_with fail
    refine (NO.out 0 (by decide) (by decide)).mono ?_
    rintro e w1 ⟨rfl, rfl⟩
    go_wp2_with fail
    refine (is_same (a 1) _).mono ?_
    rintro e w1 ⟨rfl, rfl⟩
    go_wp2
    go_ret
    exact ⟨rfl, rfl⟩
  · go_enter Tryz.func165, Tryz.ntmps165
    go_wp2_with fail
    refine (NO.out 0 (by decide) (by decide)).mono ?_
    rintro e w1 ⟨rfl, rfl⟩
    go_wp2_with fail
    refine (NO.out 1 (by decide) (by decide)).mono ?_
    rintro e w1 ⟨rfl, rfl⟩
    go_wp2_with fail
    refine (is_same (a 2) _).mono ?_
    rintro e w1 ⟨rfl, rfl⟩
    go_wp2
    go_ret
    exact ⟨rfl, rfl⟩
  · go_enter Tryz.func165, Tryz.ntmps165
    go_wp2_with fail
    refine (NO.out 0 (by decide) (by decide)).mono ?_
    rintro e w1 ⟨rfl, rfl⟩
    go_wp2_with fail
    refine (NO.out 1 (by decide) (by decide)).mono ?_
    rintro e w1 ⟨rfl, rfl⟩
    go_wp2_with fail
    refine (NO.out 2 (by decide) (by decide)).mono ?_
    rintro e w1 ⟨rfl, rfl⟩
    go_wp2_with fail
    refine (is_same (a 3) _).mono ?_
    rintro e w1 ⟨rfl, rfl⟩
    go_wp2
    go_ret
    exact ⟨rfl, rfl⟩
  · go_enter Tryz.func165, Tryz.ntmps165
    go_wp2_with fail
    refine (NO.out 0 (by decide) (by decide)).mono ?_
    rintro e w1 ⟨rfl, rfl⟩
    go_wp2_with fail
    refine (NO.out 1 (by decide) (by decide)).mono ?_
    rintro e w1 ⟨rfl, rfl⟩
    go_wp2_with fail
    refine (NO.out 2 (by decide) (by decide)).mono ?_
    rintro e w1 ⟨rfl, rfl⟩
    go_wp2_with fail
    refine (NO.out 3 (by decide) (by decide)).mono ?_
    rintro e w1 ⟨rfl, rfl⟩
    go_wp2_with fail
    refine (is_same (a 4) _).mono ?_
    rintro e w1 ⟨rfl, rfl⟩
    go_wp2
    go_ret
    exact ⟨rfl, rfl⟩
end Go.Proofs.YtlhididcanedhaaGreatDoor
