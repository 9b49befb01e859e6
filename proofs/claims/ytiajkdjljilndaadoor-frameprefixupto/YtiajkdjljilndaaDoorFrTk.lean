/- The contracts of a stream's Take and Expect, and of Feed where nothing is taken. -/
import Derived.Test.YtiajkdjljilndaaDoorFrFeed
namespace Go.Proofs.YtiajkdjljilndaaDoor
open Go.RowKit Go.Wire1 Go.Crc2 Go.Frm

set_option maxHeartbeats 2000000 in
set_option maxRecDepth 100000 in
theorem feed_idle (w : World) (b : Nat) (s : Sm) (pv : Value) (E0 : Nat) (sa : Option Addr) (n cap : Nat) (h : Str w b s pv E0) (hp : s.part = 5 ∨ s.part = 6) (hn : n ≤ maxLen) :
    Calls Tryd.prog 21 #[.pointer (some ⟨b, 0, none⟩), .slice sa n cap] w fun r w' => r = .returned (.int .i64 0) ∧ w = w' := by
  have c4 := h.at_ 4 _ rfl
  unfold maxLen at hn
  have hst : Hid (n = n) := rfl
  by_cases h0 : 0 < n
  · rcases hp with hp | hp
    all_goals rw [hp] at c4
    all_goals clear hp h
    all_goals go_enter Tryd.func21, Tryd.ntmps21
    all_goals go_wp2
    all_goals go_step3
    all_goals go_wp2
    all_goals go_step3
    all_goals go_wp2
    all_goals go_loopw [5] (fun r wr => r = .slice sa n cap ∧ wr = w) (fun _ _ => 0)
    case atStart => exact ⟨rfl, rfl⟩
    case round =>
      obtain ⟨rfl, rfl⟩ := hrel
      go_wp2
      rw [Exit.noGoto_ret]
      go_ret
      exact ⟨by simp, rfl⟩
    case atStart => exact ⟨rfl, rfl⟩
    case round =>
      obtain ⟨rfl, rfl⟩ := hrel
      go_wp2
      rw [Exit.noGoto_ret]
      go_ret
      exact ⟨by simp, rfl⟩
  · obtain rfl : n = 0 := by omega
    clear hp h c4
    go_enter Tryd.func21, Tryd.ntmps21
    go_wp2
    go_step3
    go_wp2
    go_step3
    go_wp2
    go_loopw [5] (fun r wr => r = .slice sa 0 cap ∧ wr = w) (fun _ _ => 0)
    case atStart => exact ⟨rfl, rfl⟩
    case round =>
      obtain ⟨rfl, rfl⟩ := hrel
      go_wp2
      first | go_ret | (rw [Exit.noGoto_ret]; go_ret)
      exact ⟨by simp, rfl⟩

set_option maxHeartbeats 2000000 in
set_option maxRecDepth 100000 in
theorem take_no (w : World) (b : Nat) (s : Sm) (pv : Value) (E0 : Nat) (h : Str w b s pv E0) (hp : s.part ≠ 5) :
    Calls Tryd.prog 22 #[.pointer (some ⟨b, 0, none⟩)] w fun r w' => r = .returned (.tuple #[.slice none 0 0, .bool false]) ∧ w = w' := by
  have c4 := h.at_ 4 _ rfl
  have hne : ((s.part : Int) != 5) = true := by rw [bne_iff_ne]; omega
  clear h hp
  go_enter Tryd.func22, Tryd.ntmps22
  go_wp2
  go_ret2
  exact ⟨rfl, rfl⟩

theorem put_all_cells {w : World} {b : Nat} (v0 v1 v2 v3 v4 v5 v6 v7 v8 v9 v10 v11 v12 v13 : Value) : w.setCells b 0 [v0, v1, v2, v3, v4, v5, v6, v7, v8, v9, v10, v11, v12, v13] = (((((((((((((w.setCell ⟨b, 0, none⟩ v0).setCell ⟨b, 1, none⟩ v1).setCell ⟨b, 2, none⟩ v2).setCell ⟨b, 3, none⟩ v3).setCell ⟨b, 4, none⟩ v4).setCell ⟨b, 5, none⟩ v5).setCell ⟨b, 6, none⟩ v6).setCell ⟨b, 7, none⟩ v7).setCell ⟨b, 8, none⟩ v8).setCell ⟨b, 9, none⟩ v9).setCell ⟨b, 10, none⟩ v10).setCell ⟨b, 11, none⟩ v11).setCell ⟨b, 12, none⟩ v12).setCell ⟨b, 13, none⟩ v13 := rfl

set_option maxHeartbeats 2000000 in
set_option maxRecDepth 100000 in
theorem take_yes (w : World) (b : Nat) (s : Sm) (pv : Value) (E0 : Nat) (h : Str w b s pv E0) (hp : s.part = 5) (hl : s.pay.length ≤ 1048576) (hpl : s.place + s.held ≤ 9223372036854775807) :
    Calls Tryd.prog 22 #[.pointer (some ⟨b, 0, none⟩)] w fun r w' => r = .returned (.tuple #[.slice (some ⟨w.heap.size, 0, none⟩) s.pay.length s.pay.length, .bool true]) ∧
      w'.heap[w.heap.size]? = some (.cells (s.pay.map (Value.int .u8)).toArray 5 (0, 0)) ∧ Stp w w' b (fresh s.v (s.place + s.held)) pv (.slice none 0 0) E0 := by
  obtain ⟨i0, hi, hz0, hz1, hz2⟩ := info_parts Tryd.info5
  have c4 := h.at_ 4 _ rfl
  rw [hp] at c4
  obtain ⟨a0, cp0, hpv⟩ := own_shape h.own
  have c12 := h.c12
  obtain ⟨n, hn⟩ : ∃ n, n = s.pay.length := ⟨_, rfl⟩
  rw [hpv] at c12
  rw [← hn] at c12 hl hpv ⊢
  have hmx : n ≤ maxLen := by unfold maxLen; omega
  have HH := hide h
  have HN := hide hn
  have HPV := hide hpv
  clear h hn hp hpv
  go_enter Tryd.func22, Tryd.ntmps22
  go_wp2_with (first
    | (at_make; refine wpList_make_full _ rfl _ _ 22 rfl w.heap.size 5 i0 (.int .u8 0) 1 Tryd.underlying22 hi hz0 hz1 .i64 .i64 _ _ n rfl rfl (by omega) (by omega) (by rw [hz2]; omega) hmx (Nat.le_refl _) ?_))
  intro w1 hown hgrow
  have hb1 : Below w.heap.size w w1 := ⟨hgrow.os, hgrow.tape, hgrow.output, hgrow.size, fun k hk => hgrow.block k hk (by intro e; cases e)⟩
  have S1 := HH.out.on hb1
  have d12 : w1.cell? ⟨b, 12, none⟩ = some (.slice a0 n cp0) := (hb1.cell (p := ⟨b, 12, none⟩) (cell_lt c12)).trans c12
  obtain ⟨cur, hcur, hcs⟩ : ∃ cur : Array Value, w1.heap[w.heap.size]? = some (.cells cur 5 (0, 0)) ∧ cur.size = n := by
    rcases hown.2 with ⟨e, _⟩ | ⟨g, cap, cur, e, hB, hh, h3, h4, h5, h6⟩
    · cases e
    · cases e; exact ⟨cur, hh, by omega⟩
  obtain ⟨W2, hW2⟩ : ∃ W2, W2 = w1.setRow w.heap.size (s.pay.map (Value.int .u8)).toArray := ⟨_, rfl⟩
  have hsrc : ∀ j u, (s.pay.map (Value.int .u8))[j]? = some u → ∀ x, a0 = some x → w1.cell? (x.add j) = some u := by
    intro j u hj x hx
    have ho := S1.own
    rw [HPV.out, hx] at ho
    rcases ho.2 with ⟨e, _⟩ | ⟨g, cap, cur', e, hB, hh, h3, h4, h5, h6⟩
    · cases e
    · cases e
      exact ho.cells (g := g) rfl j u hj
  have hcopy : ∀ ty, (Builtin.copy_ #[22, 22] ty #[.slice (some ⟨w.heap.size, 0, none⟩) n n, .slice a0 n cp0]).run Tryd.prog w1 = .ok (.int .i64 (n : Int)) W2 := fun ty => by
    cases a0 with
    | none =>
      have h0 : n = 0 := by
        rcases S1.own.2 with ⟨e, h0⟩ | ⟨g, cap, cur', e, _⟩
        · rw [HN.out]; exact h0
        · rw [HPV.out] at e; cases e
      have hpay : s.pay = [] := List.length_eq_zero_iff.1 (by rw [← HN.out, h0])
      have := run_copy_none (P := Tryd.prog) w1 22 22 ty 5 (some ⟨w.heap.size, 0, none⟩) none n n n cp0 Tryd.underlying22 (by kernel_rfl) (by rw [h0]; rfl)
      rw [this, hW2, h0, hpay]
      have hc0 : cur = #[] := Array.eq_empty_of_size_eq_zero (by omega)
      subst hc0
      rw [show (List.map (Value.int IntKind.u8) ([] : List Int)).toArray = #[] from rfl, setRow_self w1 w.heap.size #[] 5 (0, 0) hcur]
      rfl
    | some x =>
      have := run_copy_row (P := Tryd.prog) w1 22 22 ty 5 w.heap.size 0 n n x n cp0 cur 5 (s.pay.map (Value.int .u8)) Tryd.underlying22 (by kernel_rfl) hcur (by simp [← HN.out]) (fun j u hj => hsrc j u hj x rfl) (by simp [← HN.out, hcs]) (by intro u hv; simp at hv; obtain ⟨z, _, rfl⟩ := hv; rfl)
      rw [this, hW2, List.length_map, ← HN.out]
      congr 2
      rw [List.take_zero, List.nil_append, Nat.zero_add, List.drop_eq_nil_of_le (by simp [hcs]), List.append_nil]
  have hbw : b ≠ w.heap.size := Nat.ne_of_lt HH.out.box.lt
  have S2 : Str W2 b s pv E0 := by
    have hb2 : Below w.heap.size w W2 := by rw [hW2]; exact below_setRow hb1 (Nat.le_refl _) _
    exact HH.out.on hb2
  have T2 : Tch b pv.ownBlock w W2 := Tch.ofBelow (by rw [hW2]; exact below_setRow hb1 (Nat.le_refl _) _)
  have hrow : W2.heap[w.heap.size]? = some (.cells (s.pay.map (Value.int .u8)).toArray 5 (0, 0)) := by rw [hW2]; exact setRow_heap w1 w.heap.size cur _ 5 (0, 0) hcur
  have P3 := S2.putAll (fresh s.v (s.place + s.held)) rfl rfl
  obtain ⟨Y, hY⟩ : ∃ Y, Y = W2.setCells b 0 (cellsS (fresh s.v (s.place + s.held)) (.slice none 0 0)) := ⟨_, rfl⟩
  rw [← hY] at P3
  have HY := hide hY
  clear hY
  have R : Hid (Stp w (Y.drewN 1) b (fresh s.v (s.place + s.held)) pv (.slice none 0 0) E0 ∧ Y.heap[w.heap.size]? = some (.cells (s.pay.map (Value.int .u8)).toArray 5 (0, 0))) := by
    refine ⟨⟨P3.str.drewN 1, (T2.trans P3.tch (Lat.refl _ _)).drewN 1, .inr (by intro k e; cases e)⟩, ?_⟩
    exact (P3.tch.block w.heap.size (Array.getElem?_eq_some_iff.1 hrow).1 (Ne.symm hbw) (by intro e; have := (HH.out.own.lt _ e.symm).2; omega)).trans hrow
  clear c4 c12
  have c0 := S2.at_ 0 _ rfl
  have c1 := S2.at_ 1 _ rfl
  have c2 := S2.at_ 2 _ rfl
  have c3 := S2.at_ 3 _ rfl
  have c4 := S2.at_ 4 _ rfl
  have c5 := S2.at_ 5 _ rfl
  have c6 : W2.cell? ⟨b, 6, none⟩ = _ := S2.chead 0 (by decide)
  have c7 : W2.cell? ⟨b, 7, none⟩ = _ := S2.chead 1 (by decide)
  have c8 : W2.cell? ⟨b, 8, none⟩ = _ := S2.chead 2 (by decide)
  have c9 : W2.cell? ⟨b, 9, none⟩ = _ := S2.chead 3 (by decide)
  have c10 : W2.cell? ⟨b, 10, none⟩ = _ := S2.chead 4 (by decide)
  have c11 : W2.cell? ⟨b, 11, none⟩ = _ := S2.chead 5 (by decide)
  have e12 := S2.c12
  have e13 := S2.c13
  have t0 := S2.box.thaw 0
  have t1 := S2.box.thaw 1
  have t2 := S2.box.thaw 2
  have t3 := S2.box.thaw 3
  have t4 := S2.box.thaw 4
  have t5 := S2.box.thaw 5
  have t6 := S2.box.thaw 6
  have t7 := S2.box.thaw 7
  have t8 := S2.box.thaw 8
  have t9 := S2.box.thaw 9
  have t10 := S2.box.thaw 10
  have t11 := S2.box.thaw 11
  have t12 := S2.box.thaw 12
  have t13 := S2.box.thaw 13
  have hsum : (s.place : Int) + (s.held : Int) ≤ 9223372036854775807 := by omega
  have HYL : Hid (W2.setCells b 0 [.int .i64 (s.v : Int), .int .i64 0, .int .i64 ((s.place : Int) + (s.held : Int)), .int .i64 0, .int .i64 0, .int .i64 0, .int .u8 0, .int .u8 0, .int .u8 0, .int .u8 0, .int .u8 0, .int .u8 0, .slice none 0 0, .int .u32 0] = Y) := HY.out.symm
  clear hrow P3 T2 S2 S1 hsrc hW2 hcur hown hgrow hb1 hcs
  simp only [nr] at e13
  generalize s.head.getD 0 0 = h0 at *
  generalize s.head.getD 1 0 = h1 at *
  generalize s.head.getD 2 0 = h2 at *
  generalize s.head.getD 3 0 = h3 at *
  generalize s.head.getD 4 0 = h4 at *
  generalize s.head.getD 5 0 = h5 at *
  generalize s.sum.toNat = su at *
  go_upto_region 5 with fail
  go_region
  all_goals rw [← put_all_cells, HYL.out]
  all_goals go_wp2
  all_goals go_ret2
  all_goals exact ⟨rfl, R.out.2, R.out.1⟩

set_option maxHeartbeats 2000000 in
set_option maxRecDepth 100000 in
theorem sumBytes_any (r : R) (w : World) : Calls Tryd.prog 30 #[nr r] w fun e w' => e = .returned (.slice (some ⟨w.heap.size, 0, none⟩) 4 4) ∧ w' = w.alloc (.cells ((fb r).map (Value.int .u8)).toArray 5) := by
  have b := r_lt r
  have e0 : bt r 0 = (r.toNat : Int) % 256 := by unfold bt; simp
  have e1 : bt r 1 = (r.toNat : Int) / 256 % 256 := by unfold bt; simp
  have e2 : bt r 2 = (r.toNat : Int) / 65536 % 256 := by unfold bt; simp
  have e3 : bt r 3 = (r.toNat : Int) / 16777216 := by unfold bt; simp; omega
  have R : Hid ((fb r).map (Value.int .u8) = [.int .u8 ((r.toNat : Int) % 256), .int .u8 ((r.toNat : Int) / 256 % 256), .int .u8 ((r.toNat : Int) / 65536 % 256), .int .u8 ((r.toNat : Int) / 16777216)]) := by show _ = _; simp only [fb, List.map, e0, e1, e2, e3]
  clear e0 e1 e2 e3
  simp only [nr]
  rw [R.out]
  generalize r.toNat = m at *
  go_enter Tryd.func30, Tryd.ntmps30
  go_wp2
  go_ret
  exact ⟨rfl, rfl⟩
end Go.Proofs.YtiajkdjljilndaaDoor
