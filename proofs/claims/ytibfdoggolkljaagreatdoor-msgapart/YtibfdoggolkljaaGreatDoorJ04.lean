import Derived.Laws.CopyOwn
import Derived.Defers
import Derived.Recover
import Derived.RegionTactic
import Derived.ChangeAlike
import Derived.Test.YtibfdoggolkljaaGreatDoorJ03
set_option maxHeartbeats 1000000
set_option maxRecDepth 100000
namespace Go.Proofs.YtibfdoggolkljaaGreatDoor
open Go.RowKit Go.Wire1
def MineI (w : World) (B g N cap : Nat) (L : List Int) : Prop := w.ownsRow B 3 1 (.slice (some ⟨g, 0, none⟩) N cap) N (L.map (Value.int .i64)) ∧ L.length = N ∧ N ≤ cap ∧ cap ≤ maxLen ∧ B ≤ g
theorem mineI_of {w : World} {B : Nat} {v : Value} {L : List Int} (h : w.ownsRow B 3 1 v L.length (L.map (Value.int .i64))) (hl : 0 < L.length) : ∃ g cap, v = .slice (some ⟨g, 0, none⟩) L.length cap ∧ MineI w B g L.length cap L := by
 rcases h.2 with ⟨_, h2⟩ | ⟨g, cap, cur, rfl, hB, hh, h3, h4, h5, h6⟩
 ·omega
 ·exact ⟨g, cap, rfl, h, rfl, h3, h4, hB⟩
theorem MineI.below {w w' : World} {B g N cap C : Nat} {L : List Int} (h : MineI w B g N cap L) (hb : Below C w w') (hC : w.heap.size ≤ C) : MineI w' B g N cap L := ⟨own_below h.1 hb hC, h.2⟩
theorem MineI.drewN {w : World} {B g N cap : Nat} {L : List Int} (h : MineI w B g N cap L) (q : Nat) : MineI (w.drewN q) B g N cap L := h
theorem MineI.lt {w : World} {B g N cap : Nat} {L : List Int} (h : MineI w B g N cap L) : g < w.heap.size := (h.1.lt g rfl).2
theorem MineI.cell {w : World} {B g N cap : Nat} {L : List Int} (h : MineI w B g N cap L) {j : Nat} (hj : j < N) : w.cell? ⟨g, j, none⟩ = some (.int .i64 (L.getD j 0)) := by
 obtain ⟨h1, rfl, h3, h4, _⟩ := h
 rw [h1.cellAt j (by omega)]
 simp [List.getElem?_eq_getElem hj]
theorem MineI.frozen {w : World} {B g N cap : Nat} {L : List Int} (h : MineI w B g N cap L) (j : Nat) : w.frozen? ⟨g, j, none⟩ = false := h.1.frozenAt j
theorem MineI.seg {w : World} {B g N cap : Nat} {L : List Int} (h : MineI w B g N cap L) (hf : ∀ j, -9223372036854775808 ≤ L.getD j 0 ∧ L.getD j 0 ≤ 9223372036854775807) : SegI w (some ⟨g, 0, none⟩) N L :=
 ⟨h.2.1, by have := h.2.2; omega, fun _ => ⟨g, 0, rfl, fun j hj => by rw [Nat.zero_add]; exact h.cell hj⟩, hf⟩
theorem MineI.store {w : World} {B g N cap : Nat} {L : List Int} (h : MineI w B g N cap L) (k : Nat) (z : Int) : MineI (w.setCell ⟨g, k, none⟩ (.int .i64 z)) B g N cap (L.set k z) := by
 obtain ⟨h1, h2, h3⟩ := h
 exact ⟨by rw [List.map_set]; exact (h1.stored k _).1, by rw [List.length_set]; exact h2, h3⟩
theorem below_store {B g k : Nat} {w w' : World} (hb : Below B w w') (hg : B ≤ g) (v : Value) : Below B w (w'.setCell ⟨g, k, none⟩ v) := hb.setCell (p := ⟨g, k, none⟩) hg v
theorem Tryz.info3 : (Tryz.prog.info? 3).map (fun i => (i.zero, i.size, i.bytes)) = some (some (.int .i64 0), 1, 8) := by kernel_rfl
theorem Tryz.size3 : (Tryz.prog.info? 3).map (·.size) = some 1 := by kernel_rfl
theorem made_row {w : World} {B g n : Nat} {xs : List Value} (h : w.ownsRow B 3 1 (.slice (some ⟨g, 0, none⟩) n n) n xs) : ∃ cur : List Value, cur.length = n ∧ w.heap[g]? = some (.cells cur.toArray 3 (0, 0)) := by
 rcases h.2 with ⟨h1, _⟩ | ⟨g', cap, cur, h1, hB, hh, h3, h4, h5, h6⟩
 ·cases h1
 ·injection h1 with h7 h8 h9
  injection h7 with h7
  injection h7 with h7
  subst h7 h9
  exact ⟨cur.toList, by rw [Array.length_toList, h5, Nat.mul_one], by rw [Array.toArray_toList]; exact hh⟩
theorem own_of_row {w : World} {B g n : Nat} {cs : List Value} (h : w.heap[g]? = some (.cells cs.toArray 3 (0, 0))) (hB : B ≤ g) (hl : cs.length = n) (hm : n ≤ maxLen) : w.ownsRow B 3 1 (.slice (some ⟨g, 0, none⟩) n n) n cs :=
 ⟨by omega, .inr ⟨g, n, cs.toArray, rfl, hB, h, Nat.le_refl _, hm, by simp [hl], by simp [← hl]⟩⟩
open Go.RowKit Go.Wire1
def Fit (l : List Int) : Prop := ∀ j, -9223372036854775808 ≤ l.getD j 0 ∧ l.getD j 0 ≤ 9223372036854775807
theorem fit_of {l : List Int} (h : ∀ x ∈ l, -9223372036854775808 ≤ x ∧ x ≤ 9223372036854775807) : Fit l := fun j => by
 by_cases hj : j < l.length
 ·rw [List.getD, List.getElem?_eq_getElem hj]; exact h _ (List.getElem_mem hj)
 ·rw [List.getD, List.getElem?_eq_none (by omega)]; simp
theorem fit_ok {l : List Int} (h : okL l = true) : Fit l := fun j => by have := okL_at h j; omega
theorem cell_new (w : World) (cs : List Value) (t : TypeId) (j : Nat) : (w.alloc (.cells cs.toArray t)).cell? ⟨w.heap.size, j, none⟩ = cs[j]? := by
 have h : (w.alloc (.cells cs.toArray t)).heap[w.heap.size]? = some (.cells cs.toArray t (0, 0)) := heap_alloc_new w _
 rw [cell_of_row _ _ _ _ _ _ h]
 simp
theorem own_segI {w : World} {B : Nat} {v : Value} {l : List Int} (h : w.ownsRow B 3 1 v l.length (l.map (Value.int .i64))) (hf : Fit l) : ∃ a cap, v = .slice a l.length cap ∧ l.length ≤ cap ∧ SegI w a l.length l := by
 by_cases h0 : 0 < l.length
 ·obtain ⟨g, cap, rfl, hm⟩ := mineI_of h h0
  exact ⟨_, _, rfl, hm.2.2.1, hm.seg hf⟩
 ·have hl : l = [] := List.eq_nil_of_length_eq_zero (by omega)
  subst hl
  rcases h.2 with ⟨rfl, _⟩ | ⟨g, cap, cur, rfl, hB, hh, h3, h4, h5, h6⟩
  ·exact ⟨none, 0, rfl, Nat.le_refl _, rfl, by unfold maxLen; omega, fun h => by omega, hf⟩
  ·exact ⟨_, cap, rfl, h3, rfl, by unfold maxLen; omega, fun h => by omega, hf⟩
theorem _root_.Go.RowKit.Below.more {B : Nat} {x w : World} (h : Below B x w) (hB : B ≤ x.heap.size) (o : Obj) : Below B x (w.alloc o) := h.alloc (Nat.le_trans hB h.size) o
theorem _root_.Go.RowKit.Below.on {B : Nat} {x y z : World} (h : Below B x y) (k : Below y.heap.size y z) (hB : B ≤ x.heap.size) : Below B x z := h.trans (k.mono (Nat.le_trans hB h.size))
theorem _root_.Go.Wire1.SegI.on {w : World} {a : Option Addr} {n : Nat} {l : List Int} (h : SegI w a n l) (o : Obj) : SegI (w.alloc o) a n l := h.below ((Below.refl w.heap.size w).alloc zN o) zN
theorem own_base {w : World} {B B' : Nat} {e : TypeId} {s : Nat} {v : Value} {n : Nat} {xs : List Value} (h : w.ownsRow B e s v n xs) (hB : B' ≤ B) : w.ownsRow B' e s v n xs :=
 ⟨h.1, h.2.imp id fun ⟨g, cap, cur, h1, h2, h3⟩ => ⟨g, cap, cur, h1, Nat.le_trans hB h2, h3⟩⟩
theorem seg_lit {w : World} (l : List Int) (hl : l.length ≤ maxLen) {cs : Array Value} {t : TypeId} (hcs : cs = (l.map (Value.int .u8)).toArray) {b n : Nat} (hb : b = w.heap.size) (hn : n = l.length) : Seg (w.alloc (.cells cs t)) (some ⟨b, 0, none⟩) n l := by
 subst hcs hb hn
 refine ⟨rfl, hl, fun _ => ⟨_, 0, rfl, fun j hj => ?_⟩⟩
 rw [Nat.zero_add, cell_new]
 simp [hj]
open Go.RowKit Go.Wire1
def arrL (l : List Int) : List Value := [.int .i64 (l.getD 0 0), .int .i64 (l.getD 1 0), .int .i64 (l.getD 2 0), .int .i64 (l.getD 3 0), .int .i64 (l.getD 4 0), .int .i64 (l.getD 5 0), .int .i64 (l.getD 6 0)]
def zer7 : List Value := [.int .i64 0, .int .i64 0, .int .i64 0, .int .i64 0, .int .i64 0, .int .i64 0, .int .i64 0]
theorem arr_eq {l : List Int} {n : Nat} (hl : l.length = n) (hn : n ≤ 7) : l.map (Value.int .i64) ++ zer7.drop n = arrL l := by
 subst hl
 match l, hn with
 | [], _ => rfl
 | [_], _ => rfl
 | [_, _], _ => rfl
 | [_, _, _], _ => rfl
 | [_, _, _, _], _ => rfl
 | [_, _, _, _, _], _ => rfl
 | [_, _, _, _, _, _], _ => rfl
 | [_, _, _, _, _, _, _], _ => rfl
 | _ :: _ :: _ :: _ :: _ :: _ :: _ :: _ :: r, h => simp at h
theorem copied7 {w1 : World} {g n cap : Nat} {a : Option Addr} {l : List Int} {t : TypeId} (h : SegI w1 a n l) (hn : 0 < n) (hs : n ≤ 7) (hrow : w1.heap[g]? = some (.cells zer7.toArray t (0, 0))) :
  ∃ w2, (Builtin.copy_ #[28, 28] 3 #[.slice (some ⟨g, 0, none⟩) 7 7, .slice a n cap]).run Tryz.prog w1 = .ok (.int .i64 n) w2 ∧ w2.heap[g]? = some (.cells (arrL l).toArray t (0, 0)) ∧ w1.grownBy w2 (some g) ∧ w2.heap.size = w1.heap.size := by
 obtain ⟨b, off, rfl, hc⟩ := h.2.2.1 hn
 have hl := h.1
 have hrun := run_copy_row (P := Tryz.prog) w1 28 28 3 3 g 0 7 7 ⟨b, off, none⟩ n cap zer7.toArray t (l.map (Value.int .i64)) Tryz.underlying28 Tryz.size3 hrow
  (by rw [List.length_map, hl]; exact (Nat.min_eq_left hs).symm)
  (fun j v hv => by
   rw [List.getElem?_map] at hv
   have hj : j < l.length := by
    rcases Nat.lt_or_ge j l.length with h | h
    ·exact h
    ·rw [List.getElem?_eq_none h] at hv; cases hv
   rw [List.getElem?_eq_getElem hj] at hv
   simp only [Option.map_some, Option.some.injEq] at hv
   subst hv
   rw [add_at, hc j (by omega), List.getD, List.getElem?_eq_getElem hj]
   rfl)
  (by rw [List.length_map, List.size_toArray]; show 0 + l.length ≤ 7; omega)
  (fun v hv => by obtain ⟨x, _, rfl⟩ := List.mem_map.1 hv; rfl)
 have e : (zer7.toArray.toList.take 0 ++ l.map (Value.int .i64) ++ zer7.toArray.toList.drop (0 + (l.map (Value.int .i64)).length)) = arrL l := by
  rw [List.length_map, hl, Nat.zero_add, List.take_zero, List.nil_append]
  exact arr_eq hl hs
 rw [e, List.length_map, hl] at hrun
 exact ⟨_, hrun, setRow_heap w1 g _ _ t (0, 0) hrow, ⟨rfl, rfl, rfl, by simp [World.setRow], fun k _ hne => setRow_other w1 g k _ (fun e => hne (by rw [e]))⟩, by simp [World.setRow]⟩
theorem cell_arr {w : World} {g : Nat} {cs : List Value} {t : TypeId} (h : w.heap[g]? = some (.cells cs.toArray t (0, 0))) (j : Nat) : w.cell? ⟨g, j, none⟩ = cs[j]? := by
 rw [cell_of_row _ _ _ _ _ _ h]; simp
theorem frz_arr {w : World} {g : Nat} {cs : Array Value} {t : TypeId} (h : w.heap[g]? = some (.cells cs t (0, 0))) (j : Nat) : w.frozen? ⟨g, j, none⟩ = false := by
 simp [World.frozen?, h]
theorem entriesOf_any (a : Option Addr) (n cap : Nat) (l : List Int) (w : World) (h : SegI w a n l) (hn : 0 < n) (hs : n ≤ 7) :
  Calls Tryz.prog 152 #[.slice a n cap] w fun e w' => e = .returned (.agg (arrL l).toArray) ∧ Below w.heap.size w w' := by
 have h2 : SegI ((w.alloc (.cells zer7.toArray 140)).alloc (.cells zer7.toArray 140)) a n l := (h.on _).on _
 have hr0 : ((w.alloc (.cells zer7.toArray 140)).alloc (.cells zer7.toArray 140)).heap[w.heap.size + 1]? = some (.cells zer7.toArray 140 (0, 0)) := by
  have := heap_alloc_new (w.alloc (.cells zer7.toArray 140)) (.cells zer7.toArray 140)
  rwa [World.size_alloc] at this
 have hr1 : ((w.alloc (.cells zer7.toArray 140)).alloc (.cells zer7.toArray 140)).heap[w.heap.size]? = some (.cells zer7.toArray 140 (0, 0)) := by
  rw [Below.heap_alloc _ _ _ (by rw [World.size_alloc]; omega)]
  exact heap_alloc_new w _
 obtain ⟨w3, hrun, hrow, hg, hsz⟩ := copied7 (cap := cap) h2 hn hs hr0
 have hrow0 : w3.heap[w.heap.size]? = some (.cells zer7.toArray 140 (0, 0)) := by
  rw [hg.block _ (by simp; omega) (by simp)]; exact hr1
 have B3 : Hid (Below w.heap.size w w3) := ((((Below.refl _ w).more zN _).more zN _)).grown hg (by simp; omega) (fun j hj => by simp at hj; omega)
 have c0 := cell_arr hrow 0
 have c1 := cell_arr hrow 1
 have c2 := cell_arr hrow 2
 have c3 := cell_arr hrow 3
 have c4 := cell_arr hrow 4
 have c5 := cell_arr hrow 5
 have c6 := cell_arr hrow 6
 simp only [arrL, List.getElem?_cons_zero, List.getElem?_cons_succ] at c0 c1 c2 c3 c4 c5 c6
 have d0 := cell_arr hrow0 0
 have d1 := cell_arr hrow0 1
 have d2 := cell_arr hrow0 2
 have d3 := cell_arr hrow0 3
 have d4 := cell_arr hrow0 4
 have d5 := cell_arr hrow0 5
 have d6 := cell_arr hrow0 6
 simp only [zer7, List.getElem?_cons_zero, List.getElem?_cons_succ] at d0 d1 d2 d3 d4 d5 d6
 have e0 := frz_arr hrow0 0
 have e1 := frz_arr hrow0 1
 have e2 := frz_arr hrow0 2
 have e3 := frz_arr hrow0 3
 have e4 := frz_arr hrow0 4
 have e5 := frz_arr hrow0 5
 have e6 := frz_arr hrow0 6
 simp only [zer7] at hrun
 clear h h2 hr0 hr1 hg hrow hrow0
 unfold arrL
 generalize l.getD 0 0 = x0 at *
 generalize l.getD 1 0 = x1 at *
 generalize l.getD 2 0 = x2 at *
 generalize l.getD 3 0 = x3 at *
 generalize l.getD 4 0 = x4 at *
 generalize l.getD 5 0 = x5 at *
 generalize l.getD 6 0 = x6 at *
 go_enter Tryz.func152, Tryz.ntmps152
 go_wp2
 refine bodyPost_ret (v := .agg #[.int .i64 x0, .int .i64 x1, .int .i64 x2, .int .i64 x3, .int .i64 x4, .int .i64 x5, .int .i64 x6]) (by simp [results, Tryz.results152, go_sem, d0, d1, d2, d3, d4, d5, d6]) rfl ⟨rfl, ?_⟩
 exact below_store (below_store (below_store (below_store (below_store (below_store (below_store B3.out zN _) zN _) zN _) zN _) zN _) zN _) zN _
open Go.RowKit Go.Wire1
theorem catchI (b b1 b2 : Nat) (n1 : ¬ b = b1) (n2 : ¬ b = b2) (n3 : ¬ b1 = b2) (i : Nat) (hi : i < 5) (a : Nat → Addr) (w : World) (he : Errs w a) (x k e : Int)
  (hx : w.cell? ⟨b, 0, none⟩ = some (.int .i64 x)) (hk : w.cell? ⟨b1, 0, none⟩ = some (.int .i64 k)) (hee : w.cell? ⟨b2, 0, none⟩ = some (.int .i64 e))
  (fx : w.frozen? ⟨b, 0, none⟩ = false) (fk : w.frozen? ⟨b1, 0, none⟩ = false) (fe : w.frozen? ⟨b2, 0, none⟩ = false) :
  CallsD Tryz.prog 117 #[.pointer (some ⟨b, 0, none⟩), .pointer (some ⟨b1, 0, none⟩), .pointer (some ⟨b2, 0, none⟩)] (.panicking [{ v := errV (a i), recovered := false }]) w fun e u' w' =>
   e = .returned (.tuple #[]) ∧ u' = .panicking [{ v := errV (a i), recovered := true }] ∧ w' = ((w.setCell ⟨b, 0, none⟩ (.int .i64 0)).setCell ⟨b1, 0, none⟩ (.int .i64 0)).setCell ⟨b2, 0, none⟩ (.int .i64 (11 + (i : Int))) := by
 refine callsD_of_wpS Tryz.func117 rfl fun c₀ cs hu => ?_
 apply wpS_seq
 apply wpS_region
 simp [wpOpsS, go_sem, recoverD, hu, Tryz.ntmps117, Exit.thenS]
 refine wpS_of_wp ?_
 go_wp2_with fail
 refine (errno_any i hi a _ he).mono ?_
 rintro e w1 ⟨rfl, rfl⟩
 go_wp2
 simp [bodyPostS, results, Tryz.results117]
theorem catchI_idle (b b1 b2 : Nat) (w : World) :
  CallsD Tryz.prog 117 #[.pointer (some ⟨b, 0, none⟩), .pointer (some ⟨b1, 0, none⟩), .pointer (some ⟨b2, 0, none⟩)] .returning w fun e u' w' => e = .returned (.tuple #[]) ∧ u' = .returning ∧ w' = w := by
 refine callsD_of_wpS Tryz.func117 rfl fun c₀ cs hu => ?_
 apply wpS_seq
 apply wpS_region
 simp [wpOpsS, go_sem, recoverD, hu, Tryz.ntmps117, Exit.thenS]
 refine wpS_of_wp ?_
 go_wp2
 cases c₀
 simp_all [bodyPostS, results, Tryz.results117]
def GotI (r : Except Nat (Nat × Nat)) (e : Ending) : Prop :=
 match r with
 | .ok (x, m) => e = .returned (.tuple #[.int .i64 (unzig x), .int .i64 m, .int .i64 0])
 | .error i => e = .returned (.tuple #[.int .i64 0, .int .i64 0, .int .i64 (11 + (i : Int))])
theorem getInt_any (n cap : Nat) (sa : Option Addr) (l : List Int) (a : Nat → Addr) (w : World) (hs : Seg w sa n l) (hy : Byt l) (he : Errs w a) :
  Calls Tryz.prog 114 #[.slice sa n cap] w fun e w' => Below w.heap.size w w' ∧ GotI (dec l) e := by
 have hmf : ∀ (fn : Fn) (first cap : Array Value) (w : World), (Instr.makeFunc fn first cap).run Tryz.prog w = .ok (.func fn first cap) w := fun _ _ _ _ => rfl
 have hW := new4 w (.int .i64 0) (.int .i64 0) (.int .i64 0) 2 3 33 138 sa n cap
 obtain ⟨hcur, hbel, hx0, hk0, he0, fx0, fk0, fe0⟩ := hW
 have hs3 := hs.below hbel zN
 have he3 := he.below hbel zN
 have h5 : 7 ≤ w.heap.size := he.five
 have hsep : ∀ x, sa = some x → 0 < n → x.block ≠ w.heap.size + 1 + 1 + 1 := fun x hx hn => by
  have := hs.lt hn hx; omega
 have hab : ∀ i, i < 5 → (a i).block ≠ w.heap.size + 1 + 1 + 1 := fun i hi => by have := he.lt i hi; omega
 have HC := hide (signed_any (w.heap.size + 1 + 1 + 1) 0 n cap sa l 0 a _ hcur hs3 hsep hy (Nat.zero_le _) he3 (by omega) hab)
 clear hs3 he3 hsep hcur
 go_enter_defers Tryz.func114, Tryz.ntmps114
 go_wp2_with fail
 refine (unhide HC).mono ?_
 rintro e w1 ⟨ho, k', hc1, hk', hout⟩
 have hx1 := (World.cell?_of_block (a := ⟨w.heap.size, 0, none⟩) (ho.block w.heap.size (by omega))).trans hx0
 have hk1 := (World.cell?_of_block (a := ⟨w.heap.size + 1, 0, none⟩) (ho.block (w.heap.size + 1) (by omega))).trans hk0
 have he1 := (World.cell?_of_block (a := ⟨w.heap.size + 1 + 1, 0, none⟩) (ho.block (w.heap.size + 1 + 1) (by omega))).trans he0
 have fx1 := (World.frozen?_of_block (a := ⟨w.heap.size, 0, none⟩) (ho.block w.heap.size (by omega))).trans fx0
 have fk1 := (World.frozen?_of_block (a := ⟨w.heap.size + 1, 0, none⟩) (ho.block (w.heap.size + 1) (by omega))).trans fk0
 have fe1 := (World.frozen?_of_block (a := ⟨w.heap.size + 1 + 1, 0, none⟩) (ho.block (w.heap.size + 1 + 1) (by omega))).trans fe0
 have HB : Hid (Below w.heap.size w w1) := hbel.trans (ho.below (by omega))
 have HE : Hid (Errs w1 a) := (he.below hbel zN).only ho (by omega) hab
 have hat : w1.cell? ⟨w.heap.size + 1 + 1 + 1, 1, none⟩ = some (.int .i64 (k' : Int)) := hc1.2.1
 clear hx0 hk0 he0 fx0 fk0 fe0 ho hc1 hbel HC hs he h5 hab
 rw [List.drop_zero] at hout
 generalize hB1 : w.heap.size + 1 = B1 at *
 generalize hB2 : B1 + 1 = B2 at *
 generalize hB3 : B2 + 1 = B3 at *
 generalize hB0 : w.heap.size = B0 at *
 have n1 : ¬ B0 = B1 := by omega
 have n2 : ¬ B0 = B2 := by omega
 have n3 : ¬ B1 = B2 := by omega
 have n4 : ¬ B3 = B0 := by omega
 have n5 : ¬ B3 = B1 := by omega
 have n6 : ¬ B3 = B2 := by omega
 have m1 : ¬ B1 = B0 := by omega
 have m2 : ¬ B2 = B0 := by omega
 have m3 : ¬ B2 = B1 := by omega
 have HL : Hid (B0 ≤ B1 ∧ B0 ≤ B2) := ⟨by omega, by omega⟩
 have HZ : Hid (w.heap.size = B0) := hB0
 clear hB1 hB2 hB3 hB0
 cases hd : dec l with
 | error i =>
  rw [hd] at hout
  obtain rfl : e = _ := hout
  have hi := dec_err hd
  have HD : Hid (dec l = .error i) := hd
  clear hd
  go_wp2
  refine leaves_cons (f := 117) (args := #[.pointer (some ⟨B0, 0, none⟩), .pointer (some ⟨B1, 0, none⟩), .pointer (some ⟨B2, 0, none⟩)]) (by simp) (by simp [go_sem]) ?_
  refine (catchI B0 B1 B2 n1 n2 n3 i (by omega) a w1 HE.out 0 0 0 hx1 hk1 he1 fx1 fk1 fe1).mono ?_
  rintro e u' w'' ⟨rfl, rfl, rfl⟩
  simp [Leaves, settle, results, Tryz.results114, go_sem, hx1, hk1, he1]
  rw [HZ.out, HD.out]
  exact ⟨((HB.out.setCell (p := ⟨B0, 0, none⟩) zN _).setCell (p := ⟨B1, 0, none⟩) HL.out.1 _).setCell (p := ⟨B2, 0, none⟩) HL.out.2 _, rfl⟩
 | ok p =>
  obtain ⟨x, m⟩ := p
  rw [hd] at hout
  obtain ⟨rfl, hkk⟩ := hout
  obtain rfl : k' = m := by omega
  have HD : Hid (dec l = .ok (x, k')) := hd
  clear hd hkk
  go_wp2
  go_region
  all_goals (try go_wp2)
  all_goals refine leaves_cons (f := 117) (args := #[.pointer (some ⟨B0, 0, none⟩), .pointer (some ⟨B1, 0, none⟩), .pointer (some ⟨B2, 0, none⟩)]) (by simp) (by simp [go_sem]) ?_
  all_goals refine (catchI_idle B0 B1 B2 _).mono ?_
  all_goals rintro e u' w'' ⟨rfl, rfl, rfl⟩
  all_goals simp [Leaves, settle, results, Tryz.results114, go_sem, hx1, hk1, he1]
  all_goals rw [HZ.out, HD.out]
  all_goals exact ⟨((((HB.out.setCell (p := ⟨B0, 0, none⟩) zN _).setCell (p := ⟨B0, 0, none⟩) zN _).setCell (p := ⟨B1, 0, none⟩) HL.out.1 _).setCell (p := ⟨B2, 0, none⟩) HL.out.2 _).drew, rfl⟩
end Go.Proofs.YtibfdoggolkljaaGreatDoor
