import Derived.Deep.QuietTactic
import Derived.BigQuiet
import Derived.WalkKit
import Derived.LaidEql
import Derived.Stop.Asserts
import Derived.RowKitTokens
import Derived.Defers
import Derived.Recover
import Derived.RegionTactic
import Derived.ChangeAlike
import Derived.Test.YtppocmgcfeelhaaGreatDoorJ01
import Derived.Test.YtppocmgcfeelhaaGreatDoorChecked
set_option maxHeartbeats 1000000
set_option maxRecDepth 100000
namespace Go.Proofs.YtppocmgcfeelhaaGreatDoor
open Go.RowKit Go.Wire1
abbrev errV (a : Addr) : Value := .iface 193 (.pointer (some a))
structure Errs (w : World) (a : Nat → Addr) : Prop where
 s0 : w.cell? ⟨1, 0, none⟩ = some (errV (a 0))
 s1 : w.cell? ⟨2, 0, none⟩ = some (errV (a 1))
 s2 : w.cell? ⟨3, 0, none⟩ = some (errV (a 2))
 s3 : w.cell? ⟨4, 0, none⟩ = some (errV (a 3))
 s4 : w.cell? ⟨5, 0, none⟩ = some (errV (a 4))
 blk : ∀ i, i < 5 → ∃ c t, w.heap[(a i).block]? = some (.cells c t (0, 0))
 ne : ∀ i j, i < 5 → j < 5 → i ≠ j → a i ≠ a j
 room : 7 ≤ w.heap.size
theorem Errs.below {w w' : World} {a : Nat → Addr} {B : Nat} (h : Errs w a) (hb : Below B w w') (hB : w.heap.size ≤ B) : Errs w' a := by
 have key : ∀ g, (∃ v, w.cell? ⟨g, 0, none⟩ = some v) → w'.cell? ⟨g, 0, none⟩ = w.cell? ⟨g, 0, none⟩ := fun g ⟨v, hv⟩ => hb.cell (p := ⟨g, 0, none⟩) (by have := cell_lt hv; show g < B; omega)
 refine ⟨(key _ ⟨_, h.s0⟩).trans h.s0, (key _ ⟨_, h.s1⟩).trans h.s1, (key _ ⟨_, h.s2⟩).trans h.s2, (key _ ⟨_, h.s3⟩).trans h.s3, (key _ ⟨_, h.s4⟩).trans h.s4, fun i hi => ?_, h.ne, Nat.le_trans h.room hb.size⟩
 obtain ⟨c, t, e⟩ := h.blk i hi
 have := (Array.getElem?_eq_some_iff.1 e).1
 exact ⟨c, t, (hb.block _ (by omega)).trans e⟩
theorem Errs.only {w w' : World} {a : Nat → Addr} {b p : Nat} (h : Errs w a) (ho : Only b p w w') (h5 : 7 ≤ b) (hs : ∀ i, i < 5 → (a i).block ≠ b) : Errs w' a := by
 have key : ∀ g, g < 7 → w'.cell? ⟨g, 0, none⟩ = w.cell? ⟨g, 0, none⟩ := fun g hg => World.cell?_of_block (w := w) (ho.block g (by omega))
 exact ⟨(key _ (by decide)).trans h.s0, (key _ (by decide)).trans h.s1, (key _ (by decide)).trans h.s2, (key _ (by decide)).trans h.s3, (key _ (by decide)).trans h.s4, fun i hi => by
  obtain ⟨c, t, e⟩ := h.blk i hi; exact ⟨c, t, (ho.block _ (hs i hi)).trans e⟩, h.ne, by rw [ho.size]; exact h.room⟩
theorem Errs.lt {w : World} {a : Nat → Addr} (h : Errs w a) (i : Nat) (hi : i < 5) : (a i).block < w.heap.size := by
 obtain ⟨c, t, e⟩ := h.blk i hi
 exact (Array.getElem?_eq_some_iff.1 e).1
theorem Errs.five {w : World} {a : Nat → Addr} (h : Errs w a) : 7 ≤ w.heap.size := h.room
theorem Errs.drewN {w : World} {a : Nat → Addr} (h : Errs w a) (q : Nat) : Errs (w.drewN q) a := ⟨h.s0, h.s1, h.s2, h.s3, h.s4, h.blk, h.ne, h.room⟩
theorem left_any (b o n cap : Nat) (sa : Option Addr) (k : Nat) (w : World) (hc : Cur w b o sa n cap k) (hk : k ≤ n) (hn : n ≤ maxLen) :
  Calls Tryz.prog 107 #[.pointer (some ⟨b, o, none⟩)] w fun e w' => e = .returned (.int .i64 ((n : Int) - (k : Int))) ∧ ∃ q, w' = w.drewN q := by
 obtain ⟨c0, c1, _⟩ := hc
 unfold maxLen at hn
 go_enter Tryz.func107, Tryz.ntmps107
 go_wp2
 go_quiet (fail)
 go_wp2
 go_ret
 exact ⟨rfl, _, rfl⟩
theorem next_ok (b o n cap : Nat) (sa : Option Addr) (l : List Int) (k : Nat) (w : World) (hc : Cur w b o sa n cap k) (hs : Seg w sa n l) (hk : k < n) :
  Calls Tryz.prog 92 #[.pointer (some ⟨b, o, none⟩)] w fun e w' => e = .returned (.int .u8 (l.getD k 0)) ∧ Only b (o + 1) w w' ∧ Cur w' b o sa n cap (k + 1) := by
 have hc' := hc
 obtain ⟨c0, c1, f1⟩ := hc
 obtain ⟨hl, hn, hs⟩ := hs
 obtain ⟨sb, so, rfl, hcell⟩ := hs (by omega)
 have hcl := hcell k hk
 have HL : Hid (l.length = n) := hl
 have hn' := hn
 unfold maxLen at hn'
 clear hs hl hcell
 generalize l.getD k 0 = z at hcl ⊢
 have h0 : (((n : Int) - (k : Int)) == 0) = false := by simp; omega
 go_enter Tryz.func92, Tryz.ntmps92
 go_wp2_with fail
 refine (left_any b o n cap _ k _ hc' (by omega) hn).mono ?_
 rintro e w1 ⟨rfl, q, rfl⟩
 go_wp2_with fail
 go_quiet (fail)
 go_wp2
 go_ret
 refine ⟨rfl, ((Only.refl b (o + 1) w).drewN _).setCell _, hc'.step _⟩
theorem next_end (b o n cap : Nat) (sa : Option Addr) (a : Nat → Addr) (w : World) (hc : Cur w b o sa n cap n) (hn : n ≤ maxLen) (he : Errs w a) :
  Calls Tryz.prog 92 #[.pointer (some ⟨b, o, none⟩)] w fun e w' => e = .panicked [{ v := errV (a 0), recovered := false }] ∧ Only b (o + 1) w w' ∧ Cur w' b o sa n cap n := by
 have e0 := he.s0
 have hn' := hn
 unfold maxLen at hn'
 have h0 : (((n : Int) - (n : Int)) == 0) = true := by simp
 go_enter Tryz.func92, Tryz.ntmps92
 go_wp2_with fail
 refine (left_any b o n cap _ n _ hc (by omega) hn).mono ?_
 rintro e w1 ⟨rfl, q, rfl⟩
 go_wp2
 exact ⟨rfl, rfl, (Only.refl b (o + 1) w).drewN _, hc.drewN _⟩
def Out (a : Nat → Addr) (r : Except Nat (Nat × Nat)) (e : Ending) (k k' : Nat) : Prop :=
 match r with
 | .ok (x, m) => e = .returned (.int .u64 (x : Int)) ∧ k' = k + m
 | .error i => e = .panicked [{ v := errV (a i), recovered := false }]
theorem tenth_any (b o n cap : Nat) (sa : Option Addr) (l : List Int) (k : Nat) (a : Nat → Addr) (w : World) (hc : Cur w b o sa n cap k) (hs : Seg w sa n l) (hk : k ≤ n) (he : Errs w a) (h5 : 7 ≤ b) (hab : ∀ i, i < 5 → (a i).block ≠ b) :
  Calls Tryz.prog 93 #[.pointer (some ⟨b, o, none⟩)] w fun e w' => Only b (o + 1) w w' ∧ ∃ k', Cur w' b o sa n cap k' ∧ k' ≤ n ∧ Out a (decF 0 false (l.drop k)) e k k' := by
 have hn := hs.2.1
 by_cases hkn : k = n
 ·subst hkn
  have hd : l.drop k = [] := by rw [List.drop_eq_nil_iff]; rw [hs.1]; exact Nat.le_refl _
  rw [hd]
  go_enter Tryz.func93, Tryz.ntmps93
  go_wp2_with fail
  refine (next_end b o k cap _ a _ hc hn he).mono ?_
  rintro e w1 ⟨rfl, ho, hc1⟩
  exact ⟨rfl, ho, k, hc1, Nat.le_refl _, rfl⟩
 ·have hlt : k < n := by omega
  have HD : Hid (l.drop k = l.getD k 0 :: l.drop (k + 1)) := drop_cons (by rw [hs.1]; exact hlt)
  by_cases z0 : l.getD k 0 = 0
  ·have HR : Hid (decF 0 false (l.drop k) = .error 2) := by rw [HD.out]; exact decF_tenth0 _ _ _ z0
   go_enter Tryz.func93, Tryz.ntmps93
   go_wp2_with fail
   refine (next_ok b o n cap _ l k _ hc hs hlt).mono ?_
   rintro e w1 ⟨rfl, ho, hc1⟩
   rw [z0]
   have e2 := (he.only ho h5 hab).s2
   go_wp2
   refine ⟨rfl, ho, k + 1, hc1, by omega, ?_⟩
   rw [HR.out]; rfl
  ·by_cases z1 : l.getD k 0 = 1
   ·have HR : Hid (decF 0 false (l.drop k) = .ok (1, 1)) := by rw [HD.out]; exact decF_tenth1 _ _ _ z1
    go_enter Tryz.func93, Tryz.ntmps93
    go_wp2_with fail
    refine (next_ok b o n cap _ l k _ hc hs hlt).mono ?_
    rintro e w1 ⟨rfl, ho, hc1⟩
    rw [z1]
    go_wp2
    go_ret
    refine ⟨ho, k + 1, hc1, by omega, ?_⟩
    rw [HR.out]; exact ⟨rfl, rfl⟩
   ·have HR : Hid (decF 0 false (l.drop k) = .error 1) := by rw [HD.out]; exact decF_tenth2 _ _ _ z0 z1
    have b0 : (l.getD k 0 == 0) = false := beq_eq_false_iff_ne.2 z0
    have b1 : (l.getD k 0 == 1) = false := beq_eq_false_iff_ne.2 z1
    go_enter Tryz.func93, Tryz.ntmps93
    go_wp2_with fail
    refine (next_ok b o n cap _ l k _ hc hs hlt).mono ?_
    rintro e w1 ⟨rfl, ho, hc1⟩
    clear z0 z1
    generalize l.getD k 0 = z at *
    have e2 := (he.only ho h5 hab).s1
    go_wp2
    refine ⟨rfl, ho, k + 1, hc1, by omega, ?_⟩
    rw [HR.out]; rfl
open Go.RowKit Go.Wire1
theorem number_any (b o n cap : Nat) (sa : Option Addr) (l : List Int) (k : Nat) (a : Nat → Addr) (w : World) (hc : Cur w b o sa n cap k) (hs : Seg w sa n l) (hsep : ∀ x, sa = some x → 0 < n → x.block ≠ b) (hy : Byt l) (hk : k ≤ n) (he : Errs w a) (h5 : 7 ≤ b) (hab : ∀ i, i < 5 → (a i).block ≠ b) :
  Calls Tryz.prog 79 #[.pointer (some ⟨b, o, none⟩)] w fun e w' => Only b (o + 1) w w' ∧ ∃ k', Cur w' b o sa n cap k' ∧ k' ≤ n ∧ Out a (dec (l.drop k)) e k k' := by
 have hn := hs.2.1
 go_enter Tryz.func79, Tryz.ntmps79
 go_wp2
 go_loopw [3, 6] (fun s c wr => ∃ (x i : Nat), s = .int .u64 (x : Int) ∧ c = .int .i64 i ∧ i ≤ 9 ∧ Hid (x < 128 ^ i) ∧ k + i ≤ n ∧ Only b (o + 1) w wr ∧ Cur wr b o sa n cap (k + i) ∧ Hid (dec (l.drop k) = comb x i (decF (9 - i) (decide (i = 0)) (l.drop (k + i)))))
  (fun _ c _ => 9 - (intOf c).toNat)
 case atStart => exact ⟨0, 0, rfl, rfl, by omega, by simp [Hid], by omega, Only.refl _ _ _, hc, comb_zero _⟩
 case round =>
  obtain ⟨x, i, rfl, rfl, hi, HX, hki, ho, hcur, HR⟩ := hrel
  have hs' := ho.seg hs hsep
  have he' := he.only ho h5 hab
  by_cases h9 : i < 9
  ·obtain ⟨f, hf⟩ : ∃ f, 9 - i = f + 1 := ⟨8 - i, by omega⟩
   rw [hf] at HR
   by_cases hkn : k + i = n
   ·have HQ : Hid (dec (l.drop k) = .error 0) := by
     have h1 := HR.out
     have hd : l.drop (k + i) = [] := by rw [List.drop_eq_nil_iff, hs.1]; omega
     rw [hd, decF_nil] at h1; exact h1
    rw [hkn] at hcur
    go_wp2_with fail
    refine (next_end b o n cap _ a _ hcur hn he').mono ?_
    rintro e w1 ⟨rfl, ho1, hc1⟩
    go_wp2
    refine ⟨rfl, ho.trans ho1, n, hc1, Nat.le_refl _, ?_⟩
    rw [HQ.out]; rfl
   ·have hz := byt_at hy (k + i)
    have HD : Hid (l.drop (k + i) = l.getD (k + i) 0 :: l.drop (k + i + 1)) := drop_cons (by rw [hs.1]; omega)
    go_wp2_with fail
    refine (next_ok b o n cap _ l (k + i) _ hcur hs' (by omega)).mono ?_
    rintro e w1 ⟨rfl, ho1, hc1⟩
    generalize l.getD (k + i) 0 = z at *
    have HO : Hid (Only b (o + 1) w w1) := ho.trans ho1
    have he1 := he'.only ho1 h5 hab
    by_cases hbig : 128 ≤ z
    ·go_wp2
     refine ⟨⟨x + 128 ^ i * (z.toNat % 128), i + 1, by rw [or_step x i z HX.out h9 hz], by go_num, by omega, step_lt _ _ _ HX.out (Nat.mod_lt _ (by decide)), by omega, HO, hc1, ?_⟩, by simp [intOf]; omega⟩
     have h1 := HR.out
     rw [HD.out, decF_more _ _ _ _ _ _ hbig] at h1
     have e1 : 9 - (i + 1) = f := by omega
     have e2 : z.toNat % 128 = (z - 128).toNat := by omega
     have e3 : decide (i + 1 = 0) = false := by simp
     rw [e1, e2, e3]; exact h1
    ·by_cases h0 : z = 0 ∧ 0 < i
     ·obtain ⟨rfl, hi0⟩ := h0
      have HQ : Hid (dec (l.drop k) = .error 2) := by
       have h1 := HR.out
       have e3 : decide (i = 0) = false := by simp; omega
       rw [HD.out, e3, decF_form _ _ _ rfl] at h1; exact h1
      have e2 := he1.s2
      go_wp2
      refine ⟨rfl, HO, k + i + 1, hc1, by omega, ?_⟩
      rw [HQ.out]; rfl
     ·have HQ : Hid (dec (l.drop k) = .ok (x + 128 ^ i * (z.toNat % 128), i + 1)) := by
       have h1 := HR.out
       have e2 : z.toNat % 128 = z.toNat := by omega
       rw [HD.out, decF_last _ _ _ _ (by omega) (by simp; omega)] at h1
       rw [e2]; exact h1
      have hdec : (z = 0 ∧ i = 0) ∨ ¬ z = 0 := by omega
      clear h0
      rcases hdec with ⟨rfl, rfl⟩ | hz0
      ·go_wp2
       go_ret
       refine ⟨HO, k + 0 + 1, hc1, by omega, ?_⟩
       rw [HQ.out]
       exact ⟨ret_int (by rw [← or_step x 0 0 HX.out (by omega) hz]; rfl), by omega⟩
      ·have hb0 : (z == 0) = false := beq_eq_false_iff_ne.2 hz0
       go_wp2
       go_ret
       refine ⟨HO, k + i + 1, hc1, by omega, ?_⟩
       rw [HQ.out]
       exact ⟨ret_int (or_step x i z HX.out h9 hz), by omega⟩
  ·obtain rfl : i = 9 := by omega
   go_wp2_with fail
   refine (tenth_any b o n cap _ l (k + 9) a _ hcur hs' hki he' h5 hab).mono ?_
   rintro e w1 ⟨ho1, k', hc1, hk', hout⟩
   have h1 := HR.out
   have e1 : 9 - 9 = 0 := rfl
   have e3 : decide (9 = 0) = false := rfl
   rw [e1, e3] at h1
   have HO : Hid (Only b (o + 1) w w1) := ho.trans ho1
   cases hd : decF 0 false (l.drop (k + 9)) with
   | error j =>
    rw [hd] at hout h1
    have HQ : Hid (dec (l.drop k) = .error j) := h1
    obtain rfl : e = _ := hout
    clear h1 hd HR
    go_wp2
    refine ⟨rfl, HO, k', hc1, hk', ?_⟩
    rw [HQ.out]; rfl
   | ok p =>
    obtain ⟨y, m⟩ := p
    obtain rfl : y = 1 := decF_one hd
    rw [hd] at hout h1
    obtain ⟨rfl, HK⟩ := hout
    have HK : Hid (k' = k + 9 + m) := HK
    have HQ : Hid (dec (l.drop k) = .ok (x + 128 ^ 9 * 1, 9 + m)) := h1
    clear h1 hd HR
    go_wp2
    go_ret
    refine ⟨HO, k', hc1, hk', ?_⟩
    rw [HQ.out]
    exact ⟨ret_int (or_tenth x HX.out), by have := HK.out; omega⟩
theorem unfold_any (u : Nat) (w : World) (hu : u < 18446744073709551616) :
  Calls Tryz.prog 120 #[.int .u64 (u : Int)] w fun e w' => e = .returned (.int .i64 (unzig u)) ∧ w' = w := by
 go_enter Tryz.func120, Tryz.ntmps120
 go_wp2
 go_ret
 exact ⟨ret_int (unzig_bits u hu), rfl⟩
def OutI (a : Nat → Addr) (r : Except Nat (Nat × Nat)) (e : Ending) (k k' : Nat) : Prop :=
 match r with
 | .ok (x, m) => e = .returned (.int .i64 (unzig x)) ∧ k' = k + m
 | .error i => e = .panicked [{ v := errV (a i), recovered := false }]
theorem signed_any (b o n cap : Nat) (sa : Option Addr) (l : List Int) (k : Nat) (a : Nat → Addr) (w : World) (hc : Cur w b o sa n cap k) (hs : Seg w sa n l) (hsep : ∀ x, sa = some x → 0 < n → x.block ≠ b) (hy : Byt l) (hk : k ≤ n) (he : Errs w a) (h5 : 7 ≤ b) (hab : ∀ i, i < 5 → (a i).block ≠ b) :
  Calls Tryz.prog 117 #[.pointer (some ⟨b, o, none⟩)] w fun e w' => Only b (o + 1) w w' ∧ ∃ k', Cur w' b o sa n cap k' ∧ k' ≤ n ∧ OutI a (dec (l.drop k)) e k k' := by
 go_enter Tryz.func117, Tryz.ntmps117
 go_wp2_with fail
 refine (number_any b o n cap sa l k a _ hc hs hsep hy hk he h5 hab).mono ?_
 rintro e w1 ⟨ho, k', hc1, hk', hout⟩
 cases hd : dec (l.drop k) with
 | error i =>
  rw [hd] at hout
  obtain rfl : e = _ := hout
  have HD : Hid (dec (l.drop k) = .error i) := hd
  clear hd
  go_wp2
  refine ⟨rfl, ho, k', hc1, hk', ?_⟩
  rw [HD.out]; rfl
 | ok p =>
  obtain ⟨x, m⟩ := p
  have hx := dec_lt (fun z hz => hy z (List.mem_of_mem_drop hz)) hd
  rw [hd] at hout
  obtain ⟨rfl, HK⟩ := hout
  have HK : Hid (k' = k + m) := HK
  have HD : Hid (dec (l.drop k) = .ok (x, m)) := hd
  clear hd
  go_wp2_with fail
  refine (unfold_any x _ hx).mono ?_
  rintro e w2 ⟨rfl, rfl⟩
  go_wp2
  go_ret
  refine ⟨ho, k', hc1, hk', ?_⟩
  rw [HD.out]; exact ⟨rfl, HK.out⟩
open Go.RowKit Go.Extern.Stop Go.Stop Go.Extern
def isCmp (t : TypeId) : Sem Value := do
 Extern.Rtype.noPackHeld "Comparable" t
 pure (.bool (← typeInfo t).comparable)
theorem isTypeOf (v : Value) (w : World) : (Extern.ReflectliteType.typeOf #[.iface 193 v]).run Tryz.prog w = .ok (.iface 179 (.agg #[.pointer (some ⟨7, 193, none⟩)])) w := by kernel_rfl
theorem isComparable (w : World) : (Extern.ReflectliteType.method isCmp #[.agg #[.pointer (some ⟨7, 193, none⟩)]]).run Tryz.prog w = .ok (.bool true) w := by kernel_rfl
theorem isComp : (Tryz.prog.info? 193).map (·.comparable) = some true := by kernel_rfl
theorem isSize : (Tryz.prog.info? 237).map (·.size) = some 1 := by kernel_rfl
theorem noIsE (v : Value) (xT : TypeId) (w : World) : (Instr.typeAssert (.iface 193 v) xT 181 true).run Tryz.prog w = .ok (.tuple #[.nilIface, .bool false]) w := run_typeAssert_lacksB Tryz.underlying181 (by kernel_rfl) (by kernel_rfl) v xT w
theorem noUnwrapE (v : Value) (xT : TypeId) (w : World) : (Instr.typeAssert (.iface 193 v) xT 184 true).run Tryz.prog w = .ok (.tuple #[.nilIface, .bool false]) w := run_typeAssert_lacksB Tryz.underlying184 (by kernel_rfl) (by kernel_rfl) v xT w
theorem noUnwrapsE (v : Value) (xT : TypeId) (w : World) : (Instr.typeAssert (.iface 193 v) xT 186 true).run Tryz.prog w = .ok (.tuple #[.nilIface, .bool false]) w := run_typeAssert_lacksB Tryz.underlying186 (by kernel_rfl) (by kernel_rfl) v xT w
theorem isMethodComparable (v : Value) (w : World) : (Go.method 349 179 v "Comparable").run Tryz.prog w = .ok (177, v) w := by kernel_rfl
theorem is_same (a : Addr) (w : World) :
  Calls Tryz.prog 91 #[.iface 193 (.pointer (some a)), .iface 193 (.pointer (some a))] w fun e w' => e = .returned (.bool true) ∧ w' = w := by
 obtain ⟨i, hi, hcmp⟩ := Option.map_eq_some_iff.1 isComp
 obtain ⟨j, hj, hjs⟩ := Option.map_eq_some_iff.1 isSize
 have h8 := @run_callFunc_extern Tryz.prog 105 _ Extern.ReflectliteType.typeOf Tryz.func105 (by kernel_rfl) (by kernel_rfl) (by kernel_rfl) (by kernel_rfl)
 have h32 := @run_callFunc_extern Tryz.prog 177 _ (Extern.ReflectliteType.method isCmp) Tryz.func177 (by kernel_rfl) (by kernel_rfl) (by kernel_rfl) (by kernel_rfl)
 have tT := isTypeOf
 have cT := isComparable
 have mR := isMethodComparable
 have heq := run_eql_iface_ptr_same (P := Tryz.prog) w a Tryz.underlying158 Tryz.underlying193 hi hcmp hj
 go_enter Tryz.func91, Tryz.ntmps91
 go_wp2
 refine wp_loop_rounds 1 ?_
 rw [rounds_succ]
 go_wp2
 go_ret
 exact ⟨rfl, rfl⟩
theorem is_other (a b : Addr) (ca cb : Array Value) (ta tb : TypeId) (w : World) (hne : a ≠ b) (ha : w.heap[a.block]? = some (.cells ca ta (0, 0))) (hb : w.heap[b.block]? = some (.cells cb tb (0, 0))) :
  Calls Tryz.prog 91 #[.iface 193 (.pointer (some a)), .iface 193 (.pointer (some b))] w fun e w' => e = .returned (.bool false) ∧ w' = w := by
 obtain ⟨i, hi, hcmp⟩ := Option.map_eq_some_iff.1 isComp
 obtain ⟨j, hj, hjs⟩ := Option.map_eq_some_iff.1 isSize
 have h8 := @run_callFunc_extern Tryz.prog 105 _ Extern.ReflectliteType.typeOf Tryz.func105 (by kernel_rfl) (by kernel_rfl) (by kernel_rfl) (by kernel_rfl)
 have h32 := @run_callFunc_extern Tryz.prog 177 _ (Extern.ReflectliteType.method isCmp) Tryz.func177 (by kernel_rfl) (by kernel_rfl) (by kernel_rfl) (by kernel_rfl)
 have tT := isTypeOf
 have cT := isComparable
 have mR := isMethodComparable
 have nE := noIsE
 have uE := noUnwrapE
 have vE := noUnwrapsE
 have heq := run_eql_iface_ptr_other (P := Tryz.prog) w Tryz.underlying158 Tryz.underlying193 hi hcmp hj (by rw [hjs]; decide) hne ha hb
 go_enter Tryz.func91, Tryz.ntmps91
 go_wp2
 refine wp_loop_rounds 1 ?_
 rw [rounds_succ]
 go_wp2
 go_ret
 exact ⟨rfl, rfl⟩
open Go.RowKit Go.Wire1 Go.Stop
theorem isError (v : Value) (xT : TypeId) (w : World) : (Instr.typeAssert (.iface 193 v) xT 158 true).run Tryz.prog w = .ok (.tuple #[.iface 193 v, .bool true]) w := run_typeAssert_hasB Tryz.underlying158 (by kernel_rfl) v xT w
theorem errno_any (i : Nat) (hi : i < 5) (a : Nat → Addr) (w : World) (he : Errs w a) :
  Calls Tryz.prog 78 #[errV (a i)] w fun e w' => e = .returned (.int .i64 (11 + (i : Int))) ∧ w' = w := by
 have hE := isError
 obtain ⟨s0, s1, s2, s3, s4, hb, hne⟩ := he
 have no : ∀ j, j < 5 → j ≠ i → Calls Tryz.prog 91 #[errV (a i), errV (a j)] w fun e w' => e = .returned (.bool false) ∧ w' = w := fun j hj hji => by
  obtain ⟨c, t, h1⟩ := hb i hi
  obtain ⟨c', t', h2⟩ := hb j hj
  exact is_other (a i) (a j) c c' t t' w (hne i j hi hj (fun e => hji e.symm)) h1 h2
 have NO : Hid (∀ j, j < 5 → j ≠ i → Calls Tryz.prog 91 #[errV (a i), errV (a j)] w fun e w' => e = .returned (.bool false) ∧ w' = w) := no
 clear no hb hne
 rcases (by omega : i = 0 ∨ i = 1 ∨ i = 2 ∨ i = 3 ∨ i = 4) with rfl | rfl | rfl | rfl | rfl
 ·go_enter Tryz.func78, Tryz.ntmps78
  go_wp2_with fail
  refine (is_same (a 0) _).mono ?_
  rintro e w1 ⟨rfl, rfl⟩
  go_wp2
  go_ret
  exact ⟨rfl, rfl⟩
 ·go_enter Tryz.func78, Tryz.ntmps78
  go_wp2_with fail
  refine (NO.out 0 (by decide) (by decide)).mono ?_
  rintro e w1 ⟨rfl, rfl⟩
  go_wp2_with fail
  refine (is_same (a 1) _).mono ?_
  rintro e w1 ⟨rfl, rfl⟩
  go_wp2
  go_ret
  exact ⟨rfl, rfl⟩
 ·go_enter Tryz.func78, Tryz.ntmps78
  go_wp2_with fail
  refine (NO.out 0 (by decide) (by decide)).mono ?_
  rintro e w1 ⟨rfl, rfl⟩
  go_wp2_with fail
  refine (NO.out 1 (by decide) (by decide)).mono ?_
  rintro e w1 ⟨rfl, rfl⟩
  go_wp2_with fail
  refine (is_same (a 2) _).mono ?_
  rintro e w1 ⟨rfl, rfl⟩
  go_wp2
  go_ret
  exact ⟨rfl, rfl⟩
 ·go_enter Tryz.func78, Tryz.ntmps78
  go_wp2_with fail
  refine (NO.out 0 (by decide) (by decide)).mono ?_
  rintro e w1 ⟨rfl, rfl⟩
  go_wp2_with fail
  refine (NO.out 1 (by decide) (by decide)).mono ?_
  rintro e w1 ⟨rfl, rfl⟩
  go_wp2_with fail
  refine (NO.out 2 (by decide) (by decide)).mono ?_
  rintro e w1 ⟨rfl, rfl⟩
  go_wp2_with fail
  refine (is_same (a 3) _).mono ?_
  rintro e w1 ⟨rfl, rfl⟩
  go_wp2
  go_ret
  exact ⟨rfl, rfl⟩
 ·go_enter Tryz.func78, Tryz.ntmps78
  go_wp2_with fail
  refine (NO.out 0 (by decide) (by decide)).mono ?_
  rintro e w1 ⟨rfl, rfl⟩
  go_wp2_with fail
  refine (NO.out 1 (by decide) (by decide)).mono ?_
  rintro e w1 ⟨rfl, rfl⟩
  go_wp2_with fail
  refine (NO.out 2 (by decide) (by decide)).mono ?_
  rintro e w1 ⟨rfl, rfl⟩
  go_wp2_with fail
  refine (NO.out 3 (by decide) (by decide)).mono ?_
  rintro e w1 ⟨rfl, rfl⟩
  go_wp2_with fail
  refine (is_same (a 4) _).mono ?_
  rintro e w1 ⟨rfl, rfl⟩
  go_wp2
  go_ret
  exact ⟨rfl, rfl⟩
open Go.RowKit Go.Wire1
theorem catchU (b b1 b2 : Nat) (n1 : ¬ b = b1) (n2 : ¬ b = b2) (n3 : ¬ b1 = b2) (i : Nat) (hi : i < 5) (a : Nat → Addr) (w : World) (he : Errs w a) (x k e : Int)
  (hx : w.cell? ⟨b, 0, none⟩ = some (.int .u64 x)) (hk : w.cell? ⟨b1, 0, none⟩ = some (.int .i64 k)) (hee : w.cell? ⟨b2, 0, none⟩ = some (.int .i64 e))
  (fx : w.frozen? ⟨b, 0, none⟩ = false) (fk : w.frozen? ⟨b1, 0, none⟩ = false) (fe : w.frozen? ⟨b2, 0, none⟩ = false) :
  CallsD Tryz.prog 77 #[.pointer (some ⟨b, 0, none⟩), .pointer (some ⟨b1, 0, none⟩), .pointer (some ⟨b2, 0, none⟩)] (.panicking [{ v := errV (a i), recovered := false }]) w fun e u' w' =>
   e = .returned (.tuple #[]) ∧ u' = .panicking [{ v := errV (a i), recovered := true }] ∧ w' = ((w.setCell ⟨b, 0, none⟩ (.int .u64 0)).setCell ⟨b1, 0, none⟩ (.int .i64 0)).setCell ⟨b2, 0, none⟩ (.int .i64 (11 + (i : Int))) := by
 refine callsD_of_wpS Tryz.func77 rfl fun c₀ cs hu => ?_
 apply wpS_seq
 apply wpS_region
 simp [wpOpsS, go_sem, recoverD, hu, Tryz.ntmps77, Exit.thenS]
 refine wpS_of_wp ?_
 go_wp2_with fail
 refine (errno_any i hi a _ he).mono ?_
 rintro e w1 ⟨rfl, rfl⟩
 go_wp2
 simp [bodyPostS, results, Tryz.results77]
theorem catchU_idle (b b1 b2 : Nat) (w : World) :
  CallsD Tryz.prog 77 #[.pointer (some ⟨b, 0, none⟩), .pointer (some ⟨b1, 0, none⟩), .pointer (some ⟨b2, 0, none⟩)] .returning w fun e u' w' => e = .returned (.tuple #[]) ∧ u' = .returning ∧ w' = w := by
 refine callsD_of_wpS Tryz.func77 rfl fun c₀ cs hu => ?_
 apply wpS_seq
 apply wpS_region
 simp [wpOpsS, go_sem, recoverD, hu, Tryz.ntmps77, Exit.thenS]
 refine wpS_of_wp ?_
 go_wp2
 cases c₀
 simp_all [bodyPostS, results, Tryz.results77]
theorem new4 (w : World) (v0 v1 v2 : Value) (t0 t1 t2 t3 : TypeId) (sa : Option Addr) (n cap : Nat) :
  Cur ((((w.alloc (.cells #[v0] t0)).alloc (.cells #[v1] t1)).alloc (.cells #[v2] t2)).alloc (.cells #[.slice sa n cap, .int .i64 0] t3)) (w.heap.size + 1 + 1 + 1) 0 sa n cap 0 ∧
  Below w.heap.size w ((((w.alloc (.cells #[v0] t0)).alloc (.cells #[v1] t1)).alloc (.cells #[v2] t2)).alloc (.cells #[.slice sa n cap, .int .i64 0] t3)) ∧
  ((((w.alloc (.cells #[v0] t0)).alloc (.cells #[v1] t1)).alloc (.cells #[v2] t2)).alloc (.cells #[.slice sa n cap, .int .i64 0] t3)).cell? ⟨w.heap.size, 0, none⟩ = some v0 ∧
  ((((w.alloc (.cells #[v0] t0)).alloc (.cells #[v1] t1)).alloc (.cells #[v2] t2)).alloc (.cells #[.slice sa n cap, .int .i64 0] t3)).cell? ⟨w.heap.size + 1, 0, none⟩ = some v1 ∧
  ((((w.alloc (.cells #[v0] t0)).alloc (.cells #[v1] t1)).alloc (.cells #[v2] t2)).alloc (.cells #[.slice sa n cap, .int .i64 0] t3)).cell? ⟨w.heap.size + 1 + 1, 0, none⟩ = some v2 ∧
  ((((w.alloc (.cells #[v0] t0)).alloc (.cells #[v1] t1)).alloc (.cells #[v2] t2)).alloc (.cells #[.slice sa n cap, .int .i64 0] t3)).frozen? ⟨w.heap.size, 0, none⟩ = false ∧
  ((((w.alloc (.cells #[v0] t0)).alloc (.cells #[v1] t1)).alloc (.cells #[v2] t2)).alloc (.cells #[.slice sa n cap, .int .i64 0] t3)).frozen? ⟨w.heap.size + 1, 0, none⟩ = false ∧
  ((((w.alloc (.cells #[v0] t0)).alloc (.cells #[v1] t1)).alloc (.cells #[v2] t2)).alloc (.cells #[.slice sa n cap, .int .i64 0] t3)).frozen? ⟨w.heap.size + 1 + 1, 0, none⟩ = false := by
 refine ⟨⟨?_, ?_, ?_⟩, ?_, ?_, ?_, ?_, ?_, ?_, ?_⟩
 ·rw [World.cell?_alloc_at _ _ _ _ (by simp)]; rfl
 ·rw [World.cell?_alloc_at _ _ _ _ (by simp)]; rfl
 ·exact World.frozen?_alloc_at _ _ _ _ (by simp)
 ·exact ((((Below.refl _ _).alloc zN _).alloc (by simp) _).alloc (by simp; omega) _).alloc (by simp; omega) _
 ·rw [World.cell?_alloc_past _ _ _ (by simp; omega), World.cell?_alloc_past _ _ _ (by simp; omega), World.cell?_alloc_past _ _ _ (by simp), World.cell?_alloc_at _ _ _ _ rfl]; rfl
 ·rw [World.cell?_alloc_past _ _ _ (by simp), World.cell?_alloc_past _ _ _ (by simp), World.cell?_alloc_at _ _ _ _ (by simp)]; rfl
 ·rw [World.cell?_alloc_past _ _ _ (by simp), World.cell?_alloc_at _ _ _ _ (by simp)]; rfl
 ·rw [World.frozen?_alloc_past _ _ _ (by simp; omega), World.frozen?_alloc_past _ _ _ (by simp; omega), World.frozen?_alloc_past _ _ _ (by simp)]; exact World.frozen?_alloc_at _ _ _ _ rfl
 ·rw [World.frozen?_alloc_past _ _ _ (by simp), World.frozen?_alloc_past _ _ _ (by simp)]; exact World.frozen?_alloc_at _ _ _ _ (by simp)
 ·rw [World.frozen?_alloc_past _ _ _ (by simp)]; exact World.frozen?_alloc_at _ _ _ _ (by simp)
def GotU (r : Except Nat (Nat × Nat)) (e : Ending) : Prop :=
 match r with
 | .ok (x, m) => e = .returned (.tuple #[.int .u64 (x : Int), .int .i64 m, .int .i64 0])
 | .error i => e = .returned (.tuple #[.int .u64 0, .int .i64 0, .int .i64 (11 + (i : Int))])
theorem getUint_any (n cap : Nat) (sa : Option Addr) (l : List Int) (a : Nat → Addr) (w : World) (hs : Seg w sa n l) (hy : Byt l) (he : Errs w a) :
  Calls Tryz.prog 71 #[.slice sa n cap] w fun e w' => Below w.heap.size w w' ∧ GotU (dec l) e := by
 have hmf : ∀ (fn : Fn) (first cap : Array Value) (w : World), (Instr.makeFunc fn first cap).run Tryz.prog w = .ok (.func fn first cap) w := fun _ _ _ _ => rfl
 have hW := new4 w (.int .u64 0) (.int .i64 0) (.int .i64 0) 117 3 32 143 sa n cap
 obtain ⟨hcur, hbel, hx0, hk0, he0, fx0, fk0, fe0⟩ := hW
 have hs3 := hs.below hbel zN
 have he3 := he.below hbel zN
 have h5 : 7 ≤ w.heap.size := he.five
 have hsep : ∀ x, sa = some x → 0 < n → x.block ≠ w.heap.size + 1 + 1 + 1 := fun x hx hn => by
  have := hs.lt hn hx; omega
 have hab : ∀ i, i < 5 → (a i).block ≠ w.heap.size + 1 + 1 + 1 := fun i hi => by have := he.lt i hi; omega
 have HC := hide (number_any (w.heap.size + 1 + 1 + 1) 0 n cap sa l 0 a _ hcur hs3 hsep hy (Nat.zero_le _) he3 (by omega) hab)
 clear hs3 he3 hsep hcur
 go_enter_defers Tryz.func71, Tryz.ntmps71
 go_wp2_with fail
 refine (unhide HC).mono ?_
 rintro e w1 ⟨ho, k', hc1, hk', hout⟩
 have hx1 := (World.cell?_of_block (a := ⟨w.heap.size, 0, none⟩) (ho.block w.heap.size (by omega))).trans hx0
 have hk1 := (World.cell?_of_block (a := ⟨w.heap.size + 1, 0, none⟩) (ho.block (w.heap.size + 1) (by omega))).trans hk0
 have he1 := (World.cell?_of_block (a := ⟨w.heap.size + 1 + 1, 0, none⟩) (ho.block (w.heap.size + 1 + 1) (by omega))).trans he0
 have fx1 := (World.frozen?_of_block (a := ⟨w.heap.size, 0, none⟩) (ho.block w.heap.size (by omega))).trans fx0
 have fk1 := (World.frozen?_of_block (a := ⟨w.heap.size + 1, 0, none⟩) (ho.block (w.heap.size + 1) (by omega))).trans fk0
 have fe1 := (World.frozen?_of_block (a := ⟨w.heap.size + 1 + 1, 0, none⟩) (ho.block (w.heap.size + 1 + 1) (by omega))).trans fe0
 have HB : Hid (Below w.heap.size w w1) := hbel.trans (ho.below (by omega))
 have HE : Hid (Errs w1 a) := (he.below hbel zN).only ho (by omega) hab
 have hat : w1.cell? ⟨w.heap.size + 1 + 1 + 1, 1, none⟩ = some (.int .i64 (k' : Int)) := hc1.2.1
 clear hx0 hk0 he0 fx0 fk0 fe0 ho hc1 hbel HC hs he h5 hab
 rw [List.drop_zero] at hout
 generalize hB1 : w.heap.size + 1 = B1 at *
 generalize hB2 : B1 + 1 = B2 at *
 generalize hB3 : B2 + 1 = B3 at *
 generalize hB0 : w.heap.size = B0 at *
 have n1 : ¬ B0 = B1 := by omega
 have n2 : ¬ B0 = B2 := by omega
 have n3 : ¬ B1 = B2 := by omega
 have n4 : ¬ B3 = B0 := by omega
 have n5 : ¬ B3 = B1 := by omega
 have n6 : ¬ B3 = B2 := by omega
 have m1 : ¬ B1 = B0 := by omega
 have m2 : ¬ B2 = B0 := by omega
 have m3 : ¬ B2 = B1 := by omega
 have HL : Hid (B0 ≤ B1 ∧ B0 ≤ B2) := ⟨by omega, by omega⟩
 have HZ : Hid (w.heap.size = B0) := hB0
 clear hB1 hB2 hB3 hB0
 cases hd : dec l with
 | error i =>
  rw [hd] at hout
  obtain rfl : e = _ := hout
  have hi := dec_err hd
  have HD : Hid (dec l = .error i) := hd
  clear hd
  go_wp2
  refine leaves_cons (f := 77) (args := #[.pointer (some ⟨B0, 0, none⟩), .pointer (some ⟨B1, 0, none⟩), .pointer (some ⟨B2, 0, none⟩)]) (by simp) (by simp [go_sem]) ?_
  refine (catchU B0 B1 B2 n1 n2 n3 i (by omega) a w1 HE.out 0 0 0 hx1 hk1 he1 fx1 fk1 fe1).mono ?_
  rintro e u' w'' ⟨rfl, rfl, rfl⟩
  simp [Leaves, settle, results, Tryz.results71, go_sem, hx1, hk1, he1]
  rw [HZ.out, HD.out]
  exact ⟨((HB.out.setCell (p := ⟨B0, 0, none⟩) zN _).setCell (p := ⟨B1, 0, none⟩) HL.out.1 _).setCell (p := ⟨B2, 0, none⟩) HL.out.2 _, rfl⟩
 | ok p =>
  obtain ⟨x, m⟩ := p
  rw [hd] at hout
  obtain ⟨rfl, hkk⟩ := hout
  obtain rfl : k' = m := by omega
  have HD : Hid (dec l = .ok (x, k')) := hd
  clear hd hkk
  go_wp2
  go_region
  all_goals (try go_wp2)
  all_goals refine leaves_cons (f := 77) (args := #[.pointer (some ⟨B0, 0, none⟩), .pointer (some ⟨B1, 0, none⟩), .pointer (some ⟨B2, 0, none⟩)]) (by simp) (by simp [go_sem]) ?_
  all_goals refine (catchU_idle B0 B1 B2 _).mono ?_
  all_goals rintro e u' w'' ⟨rfl, rfl, rfl⟩
  all_goals simp [Leaves, settle, results, Tryz.results71, go_sem, hx1, hk1, he1]
  all_goals rw [HZ.out, HD.out]
  all_goals exact ⟨((((HB.out.setCell (p := ⟨B0, 0, none⟩) zN _).setCell (p := ⟨B0, 0, none⟩) zN _).setCell (p := ⟨B1, 0, none⟩) HL.out.1 _).setCell (p := ⟨B2, 0, none⟩) HL.out.2 _).drew, rfl⟩
end Go.Proofs.YtppocmgcfeelhaaGreatDoor
namespace Go.Wire1
open Go.RowKit
def SegI (w : World) (a : Option Addr) (n : Nat) (l : List Int) : Prop :=
 l.length = n ∧ n ≤ maxLen ∧ (0 < n → ∃ b off, a = some ⟨b, off, none⟩ ∧ ∀ j, j < n → w.cell? ⟨b, off + j, none⟩ = some (.int .i64 (l.getD j 0))) ∧ ∀ j, -9223372036854775808 ≤ l.getD j 0 ∧ l.getD j 0 ≤ 9223372036854775807
theorem SegI.below {w w' : World} {a : Option Addr} {n B : Nat} {l : List Int} (h : SegI w a n l) (hb : Below B w w') (hB : w.heap.size ≤ B) : SegI w' a n l := by
 obtain ⟨h1, h2, h3, h4⟩ := h
 refine ⟨h1, h2, fun hn => ?_, h4⟩
 obtain ⟨b, off, e, hc⟩ := h3 hn
 exact ⟨b, off, e, fun j hj => by
  have h := hc j hj
  rw [hb.cell (p := ⟨b, off + j, none⟩) (by have := cell_lt h; show b < B; omega)]; exact h⟩
theorem SegI.drewN {w : World} {a : Option Addr} {n : Nat} {l : List Int} (h : SegI w a n l) (q : Nat) : SegI (w.drewN q) a n l := h
def okE (x : Int) : Bool := decide (0 ≤ x ∧ x ≤ 1048576)
def okL (l : List Int) : Bool := l.all okE
def okW (n : Nat) : Bool := decide (1 ≤ n ∧ n ≤ 7)
def fault (l : List Int) : Nat := if okW l.length = true then (if okL l = true then 0 else 32) else 31
def isVec (l : List Int) : Bool := okW l.length && okL l
theorem okL_step {l : List Int} {k : Nat} (h : k < l.length) (h1 : okL (l.take k) = true) (h2 : 0 ≤ l.getD k 0 ∧ l.getD k 0 ≤ 1048576) : okL (l.take (k + 1)) = true := by
 rw [take_next h]
 unfold okL at *
 rw [List.all_append, h1]
 simp only [List.all_cons, List.all_nil, Bool.and_true, Bool.true_and, okE, decide_eq_true_eq]
 exact h2
theorem okL_no {l : List Int} {k : Nat} (h : k < l.length) (h2 : ¬ (0 ≤ l.getD k 0 ∧ l.getD k 0 ≤ 1048576)) : okL l = false := by
 rw [Bool.eq_false_iff]
 intro e
 have := List.all_eq_true.1 e (l.getD k 0) (by rw [List.getD, List.getElem?_eq_getElem h]; exact List.getElem_mem h)
 simp only [okE, decide_eq_true_eq] at this
 exact h2 this
theorem okL_at {l : List Int} (h : okL l = true) (k : Nat) : 0 ≤ l.getD k 0 ∧ l.getD k 0 ≤ 1048576 := by
 by_cases hk : k < l.length
 ·have := List.all_eq_true.1 h (l.getD k 0) (by rw [List.getD, List.getElem?_eq_getElem hk]; exact List.getElem_mem hk)
  simpa only [okE, decide_eq_true_eq] using this
 ·rw [List.getD, List.getElem?_eq_none (by omega)]; simp
structure LI where
 a : Option Addr
 n : Nat
 cap : Nat
 l : List Int
def liZ : LI := ⟨none, 0, 0, []⟩
def liv (s : LI) : Value := .slice s.a s.n s.cap
def SegL (w : World) (a : Option Addr) (n : Nat) (ls : List LI) : Prop :=
 ls.length = n ∧ n ≤ maxLen ∧ (0 < n → ∃ b off, a = some ⟨b, off, none⟩ ∧ ∀ i, i < n → w.cell? ⟨b, off + i, none⟩ = some (.slice (ls.getD i liZ).a (ls.getD i liZ).n (ls.getD i liZ).cap)) ∧ ∀ i, i < n → SegI w (ls.getD i liZ).a (ls.getD i liZ).n (ls.getD i liZ).l
theorem SegL.below {w w' : World} {a : Option Addr} {n B : Nat} {l : List LI} (h : SegL w a n l) (hb : Below B w w') (hB : w.heap.size ≤ B) : SegL w' a n l := by
 refine ⟨h.1, h.2.1, fun hn => ?_, fun i hi => (h.2.2.2 i hi).below hb hB⟩
 obtain ⟨b, off, rfl, hc⟩ := h.2.2.1 hn
 refine ⟨b, off, rfl, fun i hi => ?_⟩
 have hv := hc i hi
 rw [hb.cell (p := ⟨b, off + i, none⟩) (by have := cell_lt hv; show b < B; omega)]; exact hv
theorem SegL.drewN {w : World} {a : Option Addr} {n : Nat} {l : List LI} (h : SegL w a n l) (q : Nat) : SegL (w.drewN q) a n l := h
def lsOf (ls : List LI) : List (List Int) := ls.map (·.l)
theorem lsOf_getD (ls : List LI) (i : Nat) : (lsOf ls).getD i [] = (ls.getD i liZ).l := by
 by_cases h : i < ls.length
 ·simp [lsOf, h]
 ·simp [lsOf, liZ, List.getElem?_eq_none (by omega : ls.length ≤ i)]
theorem SegL.len {w : World} {a : Option Addr} {n : Nat} {ls : List LI} (h : SegL w a n ls) {i : Nat} (hi : i < n) : (ls.getD i liZ).n = ((lsOf ls).getD i []).length := by
 rw [lsOf_getD]; exact (h.2.2.2 i hi).1.symm
theorem SegL.at {w : World} {b off : Nat} {n : Nat} {ls : List LI} (h : SegL w (some ⟨b, off, none⟩) n ls) {i : Nat} (hi : i < n) :
  ∃ ai ni ci, w.cell? ⟨b, off + i, none⟩ = some (.slice ai ni ci) ∧ SegI w ai ni ((lsOf ls).getD i []) := by
 obtain ⟨b', off', e, hc⟩ := h.2.2.1 (by omega)
 injection e with e
 injection e with e1 e2
 subst e1 e2
 exact ⟨_, _, _, hc i hi, by rw [lsOf_getD]; exact h.2.2.2 i hi⟩
def alikeB (L : List (List Int)) : Bool := decide (0 < L.length) && (okW (L.getD 0 []).length && L.all fun l => decide (l.length = (L.getD 0 []).length))
def maxAt (L : List (List Int)) (q : Nat) : Int := L.foldl (fun k l => if q < l.length ∧ k < l.getD q 0 then l.getD q 0 else k) 0
def rowOf (n : Nat) (g : Nat → Int) : List Int := (List.range n).map g
def unionL (L : List (List Int)) : List Int := if alikeB L = true ∧ L.all okL = true then rowOf (L.getD 0 []).length (maxAt L) else []
def unionE (L : List (List Int)) : Nat := if alikeB L = true then (if L.all okL = true then 0 else 32) else 31
theorem take_snoc {α : Type} {L : List α} {k : Nat} (d : α) (h : k < L.length) : L.take (k + 1) = L.take k ++ [L.getD k d] := by
 rw [List.take_succ_eq_append_getElem h]; simp [List.getElem?_eq_getElem h]
theorem all_getD {L : List (List Int)} {p : List Int → Bool} (h : L.all p = true) {i : Nat} (hi : i < L.length) : p (L.getD i []) = true := by
 rw [List.getD, List.getElem?_eq_getElem hi]
 exact List.all_eq_true.1 h _ (List.getElem_mem hi)
theorem all_no {L : List (List Int)} {p : List Int → Bool} {i : Nat} (hi : i < L.length) (h : p (L.getD i []) = false) : L.all p = false := by
 rw [Bool.eq_false_iff]
 intro e
 rw [all_getD e hi] at h
 cases h
theorem all_step {L : List (List Int)} {p : List Int → Bool} {k : Nat} (hk : k < L.length) (h1 : (L.take k).all p = true) (h2 : p (L.getD k []) = true) : (L.take (k + 1)).all p = true := by
 rw [take_snoc [] hk, List.all_append, h1]
 simpa using h2
end Go.Wire1
