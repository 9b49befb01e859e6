/- Texts of the proof, joined. -/
import Derived.Test.YtlhididcanedhaaGreatDoorJ22
/- The contracts of the reader's octet and of its fields' methods. -/
namespace Go.Proofs.YtlhididcanedhaaGreatDoor
open Go.RowKit Go.Wire1

theorem RdS.putCmd {w0 w : World} {g k : Nat} {sa : Option Addr} {m cap : Nat} {l : List Int} {r : Rc} (h : RdS w0 w g k sa m cap l r) (c : Cm) :
    RdS w0 (w.setCells g 8 [.int .i64 c.kind, .int .i64 c.client, .int .i64 c.req, .string c.key, .string c.key2, .string c.val, .string c.old, .int .i64 c.n]) g k sa m cap l { r with c := c } ∧ Touch g w (w.setCells g 8 [.int .i64 c.kind, .int .i64 c.client, .int .i64 c.req, .string c.key, .string c.key2, .string c.val, .string c.old, .int .i64 c.n]) := by
  have p0 := h.put 6 (.int .i64 c.kind) { r with c := { r.c with kind := c.kind } } rfl rfl rfl rfl
  have p1 := p0.1.put 7 (.int .i64 c.client) { r with c := { r.c with kind := c.kind, client := c.client } } rfl rfl rfl rfl
  have p2 := p1.1.put 8 (.int .i64 c.req) { r with c := { r.c with kind := c.kind, client := c.client, req := c.req } } rfl rfl rfl rfl
  have p3 := p2.1.put 9 (.string c.key) { r with c := { r.c with kind := c.kind, client := c.client, req := c.req, key := c.key } } rfl rfl rfl rfl
  have p4 := p3.1.put 10 (.string c.key2) { r with c := { r.c with kind := c.kind, client := c.client, req := c.req, key := c.key, key2 := c.key2 } } rfl rfl rfl rfl
  have p5 := p4.1.put 11 (.string c.val) { r with c := { r.c with kind := c.kind, client := c.client, req := c.req, key := c.key, key2 := c.key2, val := c.val } } rfl rfl rfl rfl
  have p6 := p5.1.put 12 (.string c.old) { r with c := { r.c with kind := c.kind, client := c.client, req := c.req, key := c.key, key2 := c.key2, val := c.val, old := c.old } } rfl rfl rfl rfl
  have p7 := p6.1.put 13 (.int .i64 c.n) { r with c := { r.c with kind := c.kind, client := c.client, req := c.req, key := c.key, key2 := c.key2, val := c.val, old := c.old, n := c.n } } rfl rfl rfl rfl
  exact ⟨p7.1, ((((((p0.2.trans p1.2).trans p2.2).trans p3.2).trans p4.2).trans p5.2).trans p6.2).trans p7.2⟩
theorem RdS.there8 {w0 w : World} {g k : Nat} {sa : Option Addr} {m cap : Nat} {l : List Int} {r : Rc} (h : RdS w0 w g k sa m cap l r) : w.there g 8 8 := fun j hj => by
  have hl : j + 6 < (rcs r).length := by rw [rcs_len]; omega
  refine ⟨?_, h.box.thaw _⟩
  rw [show 8 + j = (j + 6) + 2 by omega, h.cell (List.getElem?_eq_getElem hl)]
  rfl

section
variable (w0 : World) (g k : Nat) (r : Rc)
set_option maxHeartbeats 4000000 in
set_option maxRecDepth 100000 in
theorem roctet_any (l : List Int) (w : World) (h : Rsx w0 w g k l r) :
    Calls Tryz.prog 67 #[.pointer (some ⟨g, 0, none⟩)] w fun e w' => e = .returned (.tuple #[.int .i64 (rOct l).1, .int .i64 (rOct l).2.2]) ∧ Touch g w w' ∧ Rsx w0 w' g k (rOct l).2.1 r := by
  cases l with
  | nil =>
    have HX := hide h
    obtain ⟨sa, m, cap, h⟩ := h
    obtain rfl : 0 = m := h.seg.1
    have c1 := h.c1
    clear h
    have e : Hid (rOct [] = (0, [], 11)) := rfl
    rw [e.out]
    go_enter Tryz.func67, Tryz.ntmps67
    go_wp2
    go_ret2
    exact ⟨rfl, Touch.refl _ _, HX.out⟩
  | cons x t =>
    have e : Hid (rOct (x :: t) = (x, t, 0)) := rfl
    rw [e.out]
    have HX := hide h
    obtain ⟨sa, m, cap, h⟩ := h
    have hn : t.length + 1 = m := h.seg.1
    have c1 := h.c1
    obtain ⟨b, off, rfl, hc⟩ := (h.seg.below h.low (Nat.le_refl _)).2.2 (by omega)
    have d0 : w.cell? ⟨b, off, none⟩ = some (.int .u8 x) := by have := hc 0 (by omega); simpa using this
    have hx := h.byt x (by simp)
    clear h hc
    have hn0 : ((m : Int) == 0) = false := by rw [beq_eq_false_iff_ne]; omega
    have hnp : 0 < m := by omega
    go_enter Tryz.func67, Tryz.ntmps67
    go_wp2_with fail
    refine (rpass_any w0 g k r (x :: t) 1 _ (by simp) HX.out).mono ?_
    rintro e w1 ⟨rfl, T1, S1⟩
    have F : Hid (Touch g w w1 ∧ Rsx w0 w1 g k t r) := ⟨T1, S1⟩
    clear T1 S1
    go_wp2
    go_ret2
    exact ⟨rfl, F.out⟩

set_option maxHeartbeats 4000000 in
set_option maxRecDepth 100000 in
theorem rdid_any (l : List Int) (a : Nat → Addr) (w : World) (he : Errs w0 a) (h : Rsx w0 w g k l r) :
    Calls Tryz.prog 38 #[.pointer (some ⟨g, 0, none⟩)] w fun e w' => ∃ aa d c, e = .returned (.int .i64 (rdE k r l 119)) ∧ Touch g w w' ∧ Rsx w0 w' g k (rdL k r l 119) ((rdR k r l 119).lay aa d c) := by
  have HX := hide h
  have HE := hide he
  obtain ⟨y, l1, e1, hx⟩ : ∃ y l1 e1, Hid (rWh l = (y, l1, e1)) := ⟨_, _, _, rfl⟩
  have E1 : Hid (rdE k r l 119 = e1) := by show (rWh l).2.2 = _; rw [hx.out]
  have E2 : Hid (rdL k r l 119 = l1) := by show (rWh l).2.1 = _; rw [hx.out]
  have E3 : Hid (rdR k r l 119 = { r with id := t31 y }) := by show ({ r with id := t31 (rWh l).1 } : Rc) = _; rw [hx.out]
  rw [E1.out, E2.out, E3.out]
  clear h he
  go_enter Tryz.func38, Tryz.ntmps38
  go_wp2_with fail
  refine (rnum_any w0 g k r l a _ HE.out HX.out).mono ?_
  rintro e w1 ⟨rfl, T1, S1⟩
  rw [hx.out] at S1 ⊢
  obtain ⟨sa, m, cap, S1⟩ := S1
  have c16 : w1.cell? ⟨g, 18, none⟩ = some (.int .i64 r.id) := S1.cell (rcs16 r)
  have t16 := S1.box.thaw 18
  have PP := S1.put 16 (.int .i64 (t31 y)) { r with id := t31 y } rfl rfl rfl rfl
  have F : Hid (Touch g w (w1.setCell ⟨g, 18, none⟩ (.int .i64 (t31 y))) ∧ Rsx w0 (w1.setCell ⟨g, 18, none⟩ (.int .i64 (t31 y))) g k l1 { r with id := t31 y }) := ⟨T1.trans PP.2, _, _, _, PP.1⟩
  clear T1 S1 PP
  go_wp2
  go_ret
  exact ⟨r.da, r.dn, r.dc, rfl, F.out⟩

set_option maxHeartbeats 4000000 in
set_option maxRecDepth 100000 in
theorem rdsize_any (l : List Int) (a : Nat → Addr) (w : World) (he : Errs w0 a) (h : Rsx w0 w g k l r) :
    Calls Tryz.prog 40 #[.pointer (some ⟨g, 0, none⟩)] w fun e w' => ∃ aa d c, e = .returned (.int .i64 (rdE k r l 110)) ∧ Touch g w w' ∧ Rsx w0 w' g k (rdL k r l 110) ((rdR k r l 110).lay aa d c) := by
  have HX := hide h
  have HE := hide he
  obtain ⟨y, l1, e1, hx⟩ : ∃ y l1 e1, Hid (rWh l = (y, l1, e1)) := ⟨_, _, _, rfl⟩
  have E1 : Hid (rdE k r l 110 = e1) := by show (rWh l).2.2 = _; rw [hx.out]
  have E2 : Hid (rdL k r l 110 = l1) := by show (rWh l).2.1 = _; rw [hx.out]
  have E3 : Hid (rdR k r l 110 = { r with n := t31 y }) := by show ({ r with n := t31 (rWh l).1 } : Rc) = _; rw [hx.out]
  rw [E1.out, E2.out, E3.out]
  clear h he
  go_enter Tryz.func40, Tryz.ntmps40
  go_wp2_with fail
  refine (rnum_any w0 g k r l a _ HE.out HX.out).mono ?_
  rintro e w1 ⟨rfl, T1, S1⟩
  rw [hx.out] at S1 ⊢
  obtain ⟨sa, m, cap, S1⟩ := S1
  have c17 : w1.cell? ⟨g, 19, none⟩ = some (.int .i64 r.n) := S1.cell (rcs17 r)
  have t17 := S1.box.thaw 19
  have PP := S1.put 17 (.int .i64 (t31 y)) { r with n := t31 y } rfl rfl rfl rfl
  have F : Hid (Touch g w (w1.setCell ⟨g, 19, none⟩ (.int .i64 (t31 y))) ∧ Rsx w0 (w1.setCell ⟨g, 19, none⟩ (.int .i64 (t31 y))) g k l1 { r with n := t31 y }) := ⟨T1.trans PP.2, _, _, _, PP.1⟩
  clear T1 S1 PP
  go_wp2
  go_ret
  exact ⟨r.da, r.dn, r.dc, rfl, F.out⟩

set_option maxHeartbeats 4000000 in
set_option maxRecDepth 100000 in
theorem rdinst_any (l : List Int) (a : Nat → Addr) (w : World) (he : Errs w0 a) (h : Rsx w0 w g k l r) :
    Calls Tryz.prog 42 #[.pointer (some ⟨g, 0, none⟩)] w fun e w' => ∃ aa d c, e = .returned (.int .i64 (rdE k r l 105)) ∧ Touch g w w' ∧ Rsx w0 w' g k (rdL k r l 105) ((rdR k r l 105).lay aa d c) := by
  have HX := hide h
  have HE := hide he
  obtain ⟨y, l1, e1, hx⟩ : ∃ y l1 e1, Hid (rWh l = (y, l1, e1)) := ⟨_, _, _, rfl⟩
  obtain ⟨z, hz⟩ : ∃ z : Int, Hid (((y % 8 : Nat) : Int) = z) := ⟨_, rfl⟩
  have E1 : Hid (rdE k r l 105 = e1) := by show (rWh l).2.2 = _; rw [hx.out]
  have E2 : Hid (rdL k r l 105 = l1) := by show (rWh l).2.1 = _; rw [hx.out]
  have E3 : Hid (rdR k r l 105 = { r with num := t31 (y / 8), row := z }) := by show ({ r with num := t31 ((rWh l).1 / 8), row := (((rWh l).1 % 8 : Nat) : Int) } : Rc) = _; rw [hx.out, ← hz.out]
  rw [E1.out, E2.out, E3.out]
  obtain ⟨v, hv⟩ : ∃ v, Hid (t31 (y / 8) = v) := ⟨_, rfl⟩
  rw [hv.out]
  clear h he
  go_enter Tryz.func42, Tryz.ntmps42
  go_wp2_with fail
  refine (rpack_any w0 g k r l a _ HE.out HX.out).mono ?_
  rintro e w1 ⟨rfl, T1, S1⟩
  rw [hx.out] at S1 ⊢
  simp only [hv.out, hz.out] at S1 ⊢
  obtain ⟨sa, m, cap, S1⟩ := S1
  have c2 : w1.cell? ⟨g, 4, none⟩ = some (.int .i64 r.num) := S1.cell (rcs2 r)
  have c1 : w1.cell? ⟨g, 3, none⟩ = some (.int .i64 r.row) := S1.cell (rcs1 r)
  have t2 := S1.box.thaw 4
  have t1 := S1.box.thaw 3
  have P1 := S1.put 2 (.int .i64 v) { r with num := v } rfl rfl rfl rfl
  have P2 := P1.1.put 1 (.int .i64 z) { r with num := v, row := z } rfl rfl rfl rfl
  have F : Hid (Touch g w ((w1.setCell ⟨g, 4, none⟩ (.int .i64 v)).setCell ⟨g, 3, none⟩ (.int .i64 z)) ∧ Rsx w0 ((w1.setCell ⟨g, 4, none⟩ (.int .i64 v)).setCell ⟨g, 3, none⟩ (.int .i64 z)) g k l1 { r with num := v, row := z }) := ⟨(T1.trans P1.2).trans P2.2, _, _, _, P2.1⟩
  clear T1 S1 P1 P2
  go_wp2
  go_ret
  exact ⟨r.da, r.dn, r.dc, rfl, F.out⟩

set_option maxHeartbeats 4000000 in
set_option maxRecDepth 100000 in
theorem rdballot_any (l : List Int) (a : Nat → Addr) (w : World) (he : Errs w0 a) (h : Rsx w0 w g k l r) :
    Calls Tryz.prog 44 #[.pointer (some ⟨g, 0, none⟩)] w fun e w' => ∃ aa d c, e = .returned (.int .i64 (rdE k r l 98)) ∧ Touch g w w' ∧ Rsx w0 w' g k (rdL k r l 98) ((rdR k r l 98).lay aa d c) := by
  have HX := hide h
  have HE := hide he
  obtain ⟨y, l1, e1, hx⟩ : ∃ y l1 e1, Hid (rWh l = (y, l1, e1)) := ⟨_, _, _, rfl⟩
  obtain ⟨z, hz⟩ : ∃ z : Int, Hid (((y % 8 : Nat) : Int) = z) := ⟨_, rfl⟩
  have E1 : Hid (rdE k r l 98 = e1) := by show (rWh l).2.2 = _; rw [hx.out]
  have E2 : Hid (rdL k r l 98 = l1) := by show (rWh l).2.1 = _; rw [hx.out]
  have E3 : Hid (rdR k r l 98 = { r with round := t31 (y / 8), who := z }) := by show ({ r with round := t31 ((rWh l).1 / 8), who := (((rWh l).1 % 8 : Nat) : Int) } : Rc) = _; rw [hx.out, ← hz.out]
  rw [E1.out, E2.out, E3.out]
  obtain ⟨v, hv⟩ : ∃ v, Hid (t31 (y / 8) = v) := ⟨_, rfl⟩
  rw [hv.out]
  clear h he
  go_enter Tryz.func44, Tryz.ntmps44
  go_wp2_with fail
  refine (rpack_any w0 g k r l a _ HE.out HX.out).mono ?_
  rintro e w1 ⟨rfl, T1, S1⟩
  rw [hx.out] at S1 ⊢
  simp only [hv.out, hz.out] at S1 ⊢
  obtain ⟨sa, m, cap, S1⟩ := S1
  have c3 : w1.cell? ⟨g, 5, none⟩ = some (.int .i64 r.round) := S1.cell (rcs3 r)
  have c4 : w1.cell? ⟨g, 6, none⟩ = some (.int .i64 r.who) := S1.cell (rcs4 r)
  have t3 := S1.box.thaw 5
  have t4 := S1.box.thaw 6
  have P1 := S1.put 3 (.int .i64 v) { r with round := v } rfl rfl rfl rfl
  have P2 := P1.1.put 4 (.int .i64 z) { r with round := v, who := z } rfl rfl rfl rfl
  have F : Hid (Touch g w ((w1.setCell ⟨g, 5, none⟩ (.int .i64 v)).setCell ⟨g, 6, none⟩ (.int .i64 z)) ∧ Rsx w0 ((w1.setCell ⟨g, 5, none⟩ (.int .i64 v)).setCell ⟨g, 6, none⟩ (.int .i64 z)) g k l1 { r with round := v, who := z }) := ⟨(T1.trans P1.2).trans P2.2, _, _, _, P2.1⟩
  clear T1 S1 P1 P2
  go_wp2
  go_ret
  exact ⟨r.da, r.dn, r.dc, rfl, F.out⟩

set_option maxHeartbeats 4000000 in
set_option maxRecDepth 100000 in
theorem rdsame_any (l : List Int) (a : Nat → Addr) (w : World) (_ : Errs w0 a) (h : Rsx w0 w g k l r) :
    Calls Tryz.prog 46 #[.pointer (some ⟨g, 0, none⟩)] w fun e w' => ∃ aa d c, e = .returned (.int .i64 (rdE k r l 115)) ∧ Touch g w w' ∧ Rsx w0 w' g k (rdL k r l 115) ((rdR k r l 115).lay aa d c) := by
  have HX := hide h
  have hgl := h.lt
  obtain ⟨y, l1, e1, hx⟩ : ∃ y l1 e1, Hid (rOct l = (y, l1, e1)) := ⟨_, _, _, rfl⟩
  have hy1 : e1 = 0 ∨ e1 = 11 := by
    have := hx.out
    cases l <;> simp only [rOct, Prod.mk.injEq] at this <;> omega
  obtain ⟨f1, hf1⟩ : ∃ f1 : Nat, e1 = (f1 : Int) := by rcases hy1 with rfl | rfl; exact ⟨0, rfl⟩; exact ⟨11, rfl⟩
  subst hf1
  clear hy1
  obtain ⟨f2, hf2⟩ : ∃ f2, Hid (unlR (decide (y ≤ 1)) 64 = f2) := ⟨_, rfl⟩
  have E1 : Hid (rdE k r l 115 = ((orR f1 f2 : Nat) : Int)) := by
    show (if (rOct l).2.2 = 0 then ((unlR (decide ((rOct l).1 ≤ 1)) 64 : Nat) : Int) else (rOct l).2.2) = _
    rw [hx.out]
    simp only [hf2.out]
    unfold orR
    by_cases h0 : f1 = 0
    · subst h0; rfl
    · rw [if_neg (by omega), if_neg h0]
  have E2 : Hid (rdL k r l 115 = l1) := by show (rOct l).2.1 = _; rw [hx.out]
  have E3 : Hid (rdR k r l 115 = { r with same := (y == 1) }) := by show ({ r with same := (rOct l).1 == 1 } : Rc) = _; rw [hx.out]
  rw [E1.out, E2.out, E3.out]
  clear h
  go_enter Tryz.func46, Tryz.ntmps46
  go_wp2_with fail
  refine (roctet_any w0 g k r l _ HX.out).mono ?_
  rintro e w1 ⟨rfl, T1, S1⟩
  rw [hx.out] at S1 ⊢
  obtain ⟨sa, m, cap, S1⟩ := S1
  have c5 : w1.cell? ⟨g, 7, none⟩ = some (.bool r.same) := S1.cell (rcs5 r)
  have t5 := S1.box.thaw 7
  have PP := S1.put 5 (.bool (y == 1)) { r with same := (y == 1) } rfl rfl rfl rfl
  obtain ⟨w2, hw2⟩ : ∃ w2, w2 = w1.setCell ⟨g, 7, none⟩ (.bool (y == 1)) := ⟨_, rfl⟩
  have F : Hid (Touch g w w2 ∧ Rsx w0 w2 g k l1 { r with same := (y == 1) }) := by rw [hw2]; exact ⟨T1.trans PP.2, _, _, _, PP.1⟩
  clear T1 S1 PP
  go_upto_region 3 with fail
  rw [← hw2]
  clear hw2 c5 t5
  go_wp2_with fail
  refine (runless_any _ 64 _).mono ?_
  rintro e w3 ⟨rfl, rfl⟩
  rw [hf2.out]
  obtain ⟨w4, hw4⟩ : ∃ w4, w4 = w2.alloc (.cells #[.int .i64 (f1 : Int), .int .i64 (f2 : Int)] 32) := ⟨_, rfl⟩
  have B4 : Hid (Below w2.heap.size w2 w4) := by rw [hw4]; exact (Below.refl _ _).alloc (Nat.le_refl _) _
  have K4 : Hid (Blk w4 w2.heap.size [.int .i64 (f1 : Int), .int .i64 (f2 : Int)]) := by rw [hw4]; exact blk_new w2 32 [.int .i64 (f1 : Int), .int .i64 (f2 : Int)]
  go_wp2_with fail
  rw [← hw4]
  clear hw4
  refine (cmpOr_any f1 f2 w2.heap.size _ K4.out).mono ?_
  rintro e w5 ⟨rfl, rfl⟩
  go_wp2
  go_ret
  exact ⟨r.da, r.dn, r.dc, rfl, F.out.1.trans (Touch.ofBelow B4.out), F.out.2.on B4.out⟩

set_option maxHeartbeats 4000000 in
set_option maxRecDepth 100000 in
theorem rdcmd_any (l : List Int) (a : Nat → Addr) (w : World) (he : Errs w0 a) (h : Rsx w0 w g k l r) (hK : Knd w0) :
    Calls Tryz.prog 48 #[.pointer (some ⟨g, 0, none⟩)] w fun e w' => ∃ aa d c, e = .returned (.int .i64 (rdE k r l 99)) ∧ Touch g w w' ∧ Rsx w0 w' g k (rdL k r l 99) ((rdR k r l 99).lay aa d c) := by
  have HX := hide h
  have HE := hide he
  have HK := hide hK
  have hgl := h.lt
  obtain ⟨c, kk, e1, hx⟩ : ∃ c kk e1, Hid (decC 2 l = (c, kk, e1)) := ⟨_, _, _, rfl⟩
  have hkk : Hid (kk ≤ l.length) := by have := rdecC_le (v := 2) h.byt; rw [hx.out] at this; exact this
  have E1 : Hid (rdE k r l 99 = e1) := by show (decC 2 l).2.2 = _; rw [hx.out]
  have E2 : Hid (rdL k r l 99 = l.drop kk) := by show l.drop (decC 2 l).2.1 = _; rw [hx.out]
  have E3 : Hid (rdR k r l 99 = { r with c := c }) := by show ({ r with c := (decC 2 l).1 } : Rc) = _; rw [hx.out]
  rw [E1.out, E2.out, E3.out]
  obtain ⟨sa, m, cap, h⟩ := h
  have c1 := h.c1
  have HS := hide h
  have hsrc : Hid (m ≤ cap ∧ cap ≤ 9223372036854775807 ∧ (sa = none → m = 0)) := by
    rcases h.src with ⟨q1, q2⟩ | ⟨⟨b, off, q0⟩, q1, q2⟩
    · exact ⟨by omega, by omega, fun _ => q1⟩
    · unfold maxLen at q2
      exact ⟨q1, q2, fun q => by rw [q0] at q; cases q⟩
  clear h he hK
  go_enter Tryz.func48, Tryz.ntmps48
  go_wp2_with fail
  refine (decode_any sa m cap l a 2 _ (HS.out.seg.below HS.out.low (Nat.le_refl _)) HS.out.byt (HE.out.below HS.out.low (Nat.le_refl _)) (HK.out.below HS.out.low (Nat.le_refl _)) hsrc.out.1 hsrc.out.2.1 hsrc.out.2.2).mono ?_
  rintro e w1 ⟨rfl, hb1⟩
  rw [hx.out]
  have S1 : Hid (RdS w0 w1 g k sa m cap l r) := HS.out.on hb1
  have T1 : Hid (Touch g w w1) := Touch.ofBelow hb1
  clear hb1 c1
  obtain ⟨U, hU⟩ : ∃ U, U = w1.alloc (.cells #[.int .i64 c.kind, .int .i64 c.client, .int .i64 c.req, .string c.key, .string c.key2, .string c.val, .string c.old, .int .i64 c.n] 27) := ⟨_, rfl⟩
  have BU : Hid (Below w1.heap.size w1 U) := by rw [hU]; exact (Below.refl _ _).alloc (Nat.le_refl _) _
  have QU : Hid (Blk U w1.heap.size [.int .i64 c.kind, .int .i64 c.client, .int .i64 c.req, .string c.key, .string c.key2, .string c.val, .string c.old, .int .i64 c.n]) := by rw [hU]; exact blk_new w1 27 [.int .i64 c.kind, .int .i64 c.client, .int .i64 c.req, .string c.key, .string c.key2, .string c.val, .string c.old, .int .i64 c.n]
  have SU : Hid (RdS w0 U g k sa m cap l r) := S1.out.on BU.out
  have TU : Hid (Touch g w U) := T1.out.trans (Touch.ofBelow BU.out)
  obtain ⟨X, hX⟩ : ∃ X, X = U.setCells g 8 [.int .i64 c.kind, .int .i64 c.client, .int .i64 c.req, .string c.key, .string c.key2, .string c.val, .string c.old, .int .i64 c.n] := ⟨_, rfl⟩
  have PX : Hid (RdS w0 X g k sa m cap l { r with c := c } ∧ Touch g U X) := by rw [hX]; exact SU.out.putCmd c
  have TH : Hid (U.there g 8 8) := SU.out.there8
  go_upto_region 2 with fail
  rw [← hU]
  clear hU
  have HXX := hide hX
  clear hX
  go_upto_region 3 with (first | (refine wpList_load_mid rfl 27 _ rfl w1.heap.size 0 rfl [.int .i64 c.kind, .int .i64 c.client, .int .i64 c.req, .string c.key, .string c.key2, .string c.val, .string c.old, .int .i64 c.n] _ QU.out.range Tryz.underlying27 rfl (by kernel_rfl) ?_) | (refine wpList_store_mid rfl 27 _ _ rfl g 8 #[.int .i64 c.kind, .int .i64 c.client, .int .i64 c.req, .string c.key, .string c.key2, .string c.val, .string c.old, .int .i64 c.n] rfl rfl TH.out (by kernel_rfl) (by kernel_rfl) ?_))
  rw [show U.setCells g 8 (#[.int .i64 c.kind, .int .i64 c.client, .int .i64 c.req, .string c.key, .string c.key2, .string c.val, .string c.old, .int .i64 c.n] : Array Value).toList = X from HXX.out.symm]
  go_wp2_with fail
  refine (rpass_any w0 g k { r with c := c } l kk _ hkk.out ⟨_, _, _, PX.out.1⟩).mono ?_
  rintro e w3 ⟨rfl, T3, S3⟩
  have F := hide (And.intro ((TU.out.trans PX.out.2).trans T3) S3)
  clear T3 S3
  go_wp2
  go_ret
  exact ⟨r.da, r.dn, r.dc, rfl, F.out⟩

set_option maxHeartbeats 4000000 in
set_option maxRecDepth 100000 in
theorem rdseq_any (l : List Int) (a : Nat → Addr) (w : World) (he : Errs w0 a) (h : Rsx w0 w g k l r) :
    Calls Tryz.prog 50 #[.pointer (some ⟨g, 0, none⟩)] w fun e w' => ∃ aa d c, e = .returned (.int .i64 (rdE k r l 113)) ∧ Touch g w w' ∧ Rsx w0 w' g k (rdL k r l 113) ((rdR k r l 113).lay aa d c) := by
  have HX := hide h
  have HE := hide he
  obtain ⟨sa, m, cap, h⟩ := h
  have HR : Hid (w.rangeAt g 2 (rcs r)) := h.range
  clear h he
  cases h0 : noopR r with
  | true =>
    have E1 : Hid (rdE k r l 113 = 0) := by show (if noopR r then 0 else _) = _; rw [h0]; rfl
    have E2 : Hid (rdL k r l 113 = l) := by show (if noopR r then l else _) = _; rw [h0]; rfl
    have E3 : Hid (rdR k r l 113 = r) := by show (if noopR r then r else _) = _; rw [h0]; rfl
    rw [E1.out, E2.out, E3.out]
    go_enter Tryz.func50, Tryz.ntmps50
    go_wp2_with (first | (refine wpList_load_mid rfl 30 _ rfl g 2 rfl (rcs r) _ HR.out Tryz.underlying30 rfl (by kernel_rfl) ?_))
    refine (risNoop_any r _).mono ?_
    rintro e w1 ⟨rfl, hb⟩
    rw [h0]
    have F : Hid (Touch g w w1 ∧ Rsx w0 w1 g k l r) := ⟨Touch.ofBelow hb, HX.out.on hb⟩
    clear hb h0
    go_wp2
    go_ret
    exact ⟨r.da, r.dn, r.dc, rfl, F.out⟩
  | false =>
    obtain ⟨y, l1, e1, hx⟩ : ∃ y l1 e1, Hid (rWh l = (y, l1, e1)) := ⟨_, _, _, rfl⟩
    have E1 : Hid (rdE k r l 113 = e1) := by show (if noopR r then 0 else (rWh l).2.2) = _; rw [h0, hx.out]; rfl
    have E2 : Hid (rdL k r l 113 = l1) := by show (if noopR r then l else (rWh l).2.1) = _; rw [h0, hx.out]; rfl
    have E3 : Hid (rdR k r l 113 = { r with seq := t31 y }) := by show (if noopR r then r else { r with seq := t31 (rWh l).1 }) = _; rw [h0, hx.out]; rfl
    rw [E1.out, E2.out, E3.out]
    go_enter Tryz.func50, Tryz.ntmps50
    go_wp2_with (first | (refine wpList_load_mid rfl 30 _ rfl g 2 rfl (rcs r) _ HR.out Tryz.underlying30 rfl (by kernel_rfl) ?_))
    refine (risNoop_any r _).mono ?_
    rintro e w1 ⟨rfl, hb⟩
    rw [h0]
    have X1 : Hid (Rsx w0 w1 g k l r) := HX.out.on hb
    have T1 : Hid (Touch g w w1) := Touch.ofBelow hb
    clear hb h0
    go_wp2_with fail
    refine (rnum_any w0 g k r l a _ HE.out X1.out).mono ?_
    rintro e w2 ⟨rfl, T2, S2⟩
    rw [hx.out] at S2 ⊢
    obtain ⟨sa2, m2, cap2, S2⟩ := S2
    have c14 : w2.cell? ⟨g, 16, none⟩ = some (.int .i64 r.seq) := S2.cell (rcs14 r)
    have t14 := S2.box.thaw 16
    have PP := S2.put 14 (.int .i64 (t31 y)) { r with seq := t31 y } rfl rfl rfl rfl
    have F : Hid (Touch g w (w2.setCell ⟨g, 16, none⟩ (.int .i64 (t31 y))) ∧ Rsx w0 (w2.setCell ⟨g, 16, none⟩ (.int .i64 (t31 y))) g k l1 { r with seq := t31 y }) := ⟨(T1.out.trans T2).trans PP.2, _, _, _, PP.1⟩
    clear T2 S2 PP
    go_wp2
    go_ret
    exact ⟨r.da, r.dn, r.dc, rfl, F.out⟩
end
end Go.Proofs.YtlhididcanedhaaGreatDoor
