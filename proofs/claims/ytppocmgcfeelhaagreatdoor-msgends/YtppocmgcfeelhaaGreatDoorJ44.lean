import Derived.WalkKit
import Derived.Laws.AppendOwn
import Derived.Below
import Derived.Test.YtppocmgcfeelhaaGreatDoorJ01
set_option maxHeartbeats 1000000
set_option maxRecDepth 100000
namespace Go
open Go.RowKit
theorem nextslicecap_wide2 {old q : Nat} (h : q ≤ 140737505132544) (hq : old < q) : Builtin.nextslicecap q old ≤ 281474976710656 := by
 unfold Builtin.nextslicecap
 split
 ·omega
 ·split
  ·omega
  ·rw [growBy_four]
   repeat' split
   all_goals omega
theorem run_append_wide2 {P : Program} (w : World) (base : Nat) (t ty e : TypeId) (i : TypeInfo) (z : Value) (ht : P.underlying t = some (.slice e)) (hi : P.info? e = some i) (hz : i.zero = some z)
  (hsize : i.size = 1) (hby : i.bytes = 1) (hzs : z.cells.size = 1)
  (v : Value) (n : Nat) (xs : List Value) (hown : w.ownsRow base e 1 v n xs) (h0 : 0 < n)
  (a : Addr) (m c : Nat) (us : List Value) (hm : us.length = m) (hnews : ∀ j x, us[j]? = some x → w.cell? (a.add j) = some x) (h1 : ∀ x ∈ us, x.oneCell' = true)
  (hn : n + m ≤ 140737505132544) (hbase : base ≤ w.heap.size) :
  ∃ v' w', (Builtin.append_ #[t, t] ty #[v, .slice (some a) m c]).run P w = .ok v' w' ∧ w'.ownsRow base e 1 v' (n + m) (xs ++ us) ∧ w.grownBy w' v.ownBlock := by
 have h63 : n + m ≤ maxLen := by simp only [maxLen]; omega
 by_cases hs : n + m ≤ 140737488355328
 ·obtain ⟨v', w', hr, h2, h3, _⟩ := run_append_own (P := P) w base t ty e i z 1 1 ht hi hz hsize hby hzs (by decide) v n xs hown a m c us (by omega) hnews h1 h63 (by omega) hbase
  exact ⟨v', w', hr, h2, h3⟩
 ·have hlen : (xs ++ us).length = (n + m) * 1 := by rw [zL, hown.1]; omega
  rcases hown.2 with ⟨rfl, rfl⟩ | ⟨g, cap, cur, rfl, hbg, hg, hnc, hcm, hcs, htake⟩
  ·omega
  ·by_cases hroom : n + m ≤ cap
   ·have hfit : n * i.size + us.length ≤ cur.size := by rw [hsize, hcs]; omega
    have hr := run_append_room (P := P) w t ty e i ht hi g n cap cur hg a m c us (by rw [hsize]; omega) hnews h1 hroom hfit
    rw [hsize, Nat.mul_one] at hr
    refine ⟨_, _, hr, ⟨hlen, .inr ⟨g, cap, _, rfl, hbg, setRow_heap w g cur _ e _ hg, hroom, hcm, ?_, ?_⟩⟩, ⟨rfl, rfl, rfl, by simp, fun k _ hk => setRow_other w g k _ (fun e => hk (by simp [Value.ownBlock, e]))⟩⟩
    ·simp only [List.size_toArray, zL, List.length_take, List.length_drop, Array.length_toList]
     omega
    ·rw [Nat.mul_one] at htake
     rw [htake, ← hlen]
     exact List.take_left
   ·have holds : ∀ j x, xs[j]? = some x → w.cell? ((⟨g, 0, none⟩ : Addr).add j) = some x := hown.cells (g := g) rfl
    have hr := run_append_grow (P := P) w t ty e i z ht hi hz ⟨g, 0, none⟩ n cap xs (by rw [hsize]; exact hown.1) holds a m c us (by rw [hsize]; omega) hnews (by omega) (by simp only [maxLen] at h63; omega) (by rw [hby, Nat.mul_one]; exact nextslicecap_wide2 (by omega) (by omega))
    have hge := grownCap_ge w (n + m) cap e
    have hcm2 : grownCap w (n + m) cap e ≤ maxLen := grownCap_le_maxLen w (n + m) cap e h63
    refine ⟨_, _, hr, ⟨hlen, .inr ⟨w.heap.size, _, _, rfl, hbase, heap_alloc_new w.drew _, hge, hcm2, ?_, ?_⟩⟩, ⟨rfl, rfl, rfl, by simp, fun k hk _ => heap_alloc_old w.drew _ hk⟩⟩
    ·simp only [Array.size_append, List.size_toArray, size_zeroCells, hzs, hown.1, Nat.mul_one]
     omega
    ·simp only [Array.toList_append, List.append_assoc]
     rw [← List.append_assoc, ← hlen]
     exact List.take_left
theorem wpList_append_wide2 {P : Program} {w : World} {ops : Array Oper} {rest : List Oper} {o : Oper} {a : Act} {Q : Exit → Act → World → Prop} (hgd : o.guard = none) (s x : Operand) (t : TypeId)
  (ho : o.op = .call { callee := .builtin .append, args := #[s, x], argTypes := #[t, t] })
  (base : Nat) (e : TypeId) (i : TypeInfo) (z : Value) (ht : P.underlying t = some (.slice e)) (hi : P.info? e = some i) (hz : i.zero = some z)
  (hsize : i.size = 1) (hby : i.bytes = 1) (hzs : z.cells.size = 1)
  (v : Value) (n : Nat) (xs : List Value) (hs : a.eval s = v) (hown : w.ownsRow base e 1 v n xs) (h0 : 0 < n)
  (ad : Addr) (m c : Nat) (us : List Value) (hm : us.length = m) (hx : a.eval x = .slice (some ad) m c) (hnews : ∀ j x, us[j]? = some x → w.cell? (ad.add j) = some x) (h1 : ∀ x ∈ us, x.oneCell' = true)
  (hn : n + m ≤ 140737505132544) (hbase : base ≤ w.heap.size)
  (h : ∀ v' w', w'.ownsRow base e 1 v' (n + m) (xs ++ us) → w.grownBy w' v.ownBlock → wpList P ops Q rest (a.put o.dst v') w') : wpList P ops Q (o :: rest) a w := by
 refine wpList_plain hgd fun K hK => ?_
 obtain ⟨v', w', hr, h2, h3⟩ := run_append_wide2 (P := P) w base t o.type e i z ht hi hz hsize hby hzs v n xs hown h0 ad m c us hm hnews h1 hn hbase
 unfold Oper.wp execOp
 simp only [ho, resolve, invoke, builtin, Sem.run_bind, Sem.run_pure, Result.andThen_ok, List.map_toArray, List.map_cons, List.map_nil, hs, hx, hr]
 exact hK _ _ (h v' w' h2 h3)
end Go
namespace Go.Proofs.YtppocmgcfeelhaaGreatDoor
open Go.RowKit Go.Wire1
theorem bytes_any (a : Option Addr) (n cap : Nat) (xs : List Int) (w : World) (ha : Seg w a n xs) (hlen : n ≤ 140737488355328) :
  Calls Tryz.prog 14 #[.slice a n cap] w fun e w' => ∃ v, e = .returned v ∧ w'.ownsRow w.heap.size 5 1 v xs.length (xs.map (Value.int .u8)) ∧ Below w.heap.size w w' := by
 obtain ⟨i0, hi, hz0, hz1, hz2⟩ := info_parts Tryz.info5
 have HA : Hid (Seg w a n xs) := ha
 have hxl : Hid (xs.length = n) := ha.1
 clear ha
 go_enter Tryz.func14, Tryz.ntmps14
 go_wp2
 go_loopw [3, 4] (fun v c wr => ∃ k : Nat, c = .int .i64 k ∧ k ≤ n ∧ wr.ownsRow w.heap.size 5 1 v (xs.take k).length ((xs.take k).map (Value.int .u8)) ∧ Below w.heap.size w wr) (fun _ c _ => n - (intOf c).toNat)
 case atStart => exact ⟨0, rfl, Nat.zero_le _, World.ownsRow_nil _ _ _ _, Below.refl _ _⟩
 case round =>
  obtain ⟨k, rfl, hk, hown, hbel⟩ := hrel
  have hsz := hbel.size
  have htl : (xs.take k).length ≤ k := List.length_take_le _ _
  by_cases hlt : k < n
  ·obtain ⟨ba, oa, rfl, hca⟩ := (HA.out.below hbel zN).2.2 (by omega)
   have ca : wr.cell? ⟨ba, oa + k, none⟩ = some (.int .u8 (xs.getD k 0)) := hca k hlt
   have HT : Hid (xs.take (k + 1) = xs.take k ++ [xs.getD k 0]) := take_next (by have := hxl.out; omega)
   clear hca
   generalize xs.getD k 0 = z at *
   generalize xs.take k = pre at *
   go_wp2_with (first
    | (at_builtin; refine wpList_append_own _ rfl _ _ 34 rfl w.heap.size 5 i0 (.int .u8 0) 1 1 Tryz.underlying34 hi hz0 hz1 hz2 rfl (by decide) _ _ _ rfl (hown.alloc _) ⟨wr.heap.size, 0, none⟩ 1 1 [.int .u8 z] rfl rfl ?c1 ?c2 ?c3 ?c4 ?c5 ?_))
   case c1 =>
    intro j u hj
    match j, hj with
    | 0, hj => simp at hj; subst hj; simp [Addr.add]
   case c2 => intro u hu; simp at hu; subst hu; rfl
   case c3 => unfold maxLen; omega
   case c4 => omega
   case c5 => simp; omega
   intro v' w1 hown' hgrow _
   have R := push hsz hown hbel hown' hgrow
   clear hown' hgrow hown
   go_wp2
   go_roundw
   case rel => rw [← HT.out] at R; exact ⟨k + 1, by go_num, by omega, R.1, R.2⟩
   case measure => simp [intOf]; omega
  ·have HT : Hid (xs.take k = xs) := List.take_of_length_le (by have := hxl.out; omega)
   rw [HT.out] at hown
   clear htl
   go_wp2
   go_ret
   exact ⟨_, rfl, hown, hbel⟩
end Go.Proofs.YtppocmgcfeelhaaGreatDoor
