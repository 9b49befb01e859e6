/- Texts of the proof, joined. -/
import Derived.Test.YtnjihfbghaefoaaGreatDoorJ37
import Derived.Lib.SlBytesConst
/- The contracts of a stream's Take and Expect, and of Feed where nothing is taken. -/
namespace Go.Proofs.YtnjihfbghaefoaaGreatDoor
open Go.RowKit Go.Wire1 Go.Crc2 Go.Frm

set_option maxHeartbeats 2000000 in
set_option maxRecDepth 100000 in
theorem sumBytes_any (r : R) (w : World) : Calls Tryz.prog 66 #[nr r] w fun e w' => e = .returned (.slice (some ⟨w.heap.size, 0, none⟩) 4 4) ∧ w' = w.alloc (.cells ((fb r).map (Value.int .u8)).toArray 5) := by
  have b := r_lt r
  have e0 : bt r 0 = (r.toNat : Int) % 256 := by unfold bt; simp
  have e1 : bt r 1 = (r.toNat : Int) / 256 % 256 := by unfold bt; simp
  have e2 : bt r 2 = (r.toNat : Int) / 65536 % 256 := by unfold bt; simp
  have e3 : bt r 3 = (r.toNat : Int) / 16777216 := by unfold bt; simp; omega
  have R : Hid ((fb r).map (Value.int .u8) = [.int .u8 ((r.toNat : Int) % 256), .int .u8 ((r.toNat : Int) / 256 % 256), .int .u8 ((r.toNat : Int) / 65536 % 256), .int .u8 ((r.toNat : Int) / 16777216)]) := by show _ = _; simp only [fb, List.map, e0, e1, e2, e3]
  clear e0 e1 e2 e3
  simp only [nr]
  rw [R.out]
  generalize r.toNat = m at *
  go_enter Tryz.func66, Tryz.ntmps66
  go_wp2
  go_ret
  exact ⟨rfl, rfl⟩
end Go.Proofs.YtnjihfbghaefoaaGreatDoor
/- Frames as lists, and the contract of Seal. -/
namespace Go.Proofs.YtnjihfbghaefoaaGreatDoor
open Go.RowKit Go.Wire1 Go.Crc2 Go.Frm

/-- append of bytes onto a list with no room: a new row. -/
theorem app_full (w : World) (g o n m c : Nat) (ad : Addr) (xs ys : List Int) (hs : Seg w (some ⟨g, o, none⟩) n xs) (hy : Seg w (some ad) m ys) (hm : 0 < m) (hb : n + m ≤ 140737488355328) :
    ∃ (g' c' : Nat) (w' : World), (∀ ty, (Builtin.append_ #[46, 46] ty #[.slice (some ⟨g, o, none⟩) n n, .slice (some ad) m c]).run Tryz.prog w = .ok (.slice (some ⟨g', 0, none⟩) (n + m) c') w') ∧ w.heap.size ≤ g' ∧
      w'.ownsRow w.heap.size 5 1 (.slice (some ⟨g', 0, none⟩) (n + m) c') (n + m) ((xs ++ ys).map (Value.int .u8)) ∧ Below w.heap.size w w' := by
  obtain ⟨i, hi, hz, hsize, hby⟩ := info_parts Tryz.info5
  have hx1 : (xs.map (Value.int .u8)).length = n * i.size := by rw [hsize, List.length_map, hs.1]; omega
  have hy1 : (ys.map (Value.int .u8)).length = m * i.size := by rw [hsize, List.length_map, hy.1]; omega
  have cell : ∀ (l : List Int) (b off k : Nat) (hc : ∀ j, j < k → w.cell? ⟨b, off + j, none⟩ = some (.int .u8 (l.getD j 0))) (hl : l.length = k), ∀ j v, (l.map (Value.int .u8))[j]? = some v → w.cell? ((⟨b, off, none⟩ : Addr).add j) = some v := by
    intro l b off k hc hl j v hj
    have hjl : j < l.length := by
      rcases Nat.lt_or_ge j l.length with q | q
      · exact q
      · rw [List.getElem?_eq_none (by simpa using q)] at hj; cases hj
    rw [add_at, hc j (by omega), ← hj]
    simp [List.getElem?_eq_getElem hjl]
  obtain ⟨b2, off2, e2, hc2⟩ := hy.2.2 hm
  cases e2
  have hcx : ∀ j v, (xs.map (Value.int .u8))[j]? = some v → w.cell? ((⟨g, o, none⟩ : Addr).add j) = some v := by
    by_cases h0 : 0 < n
    · obtain ⟨b1, off1, e1, hc1⟩ := hs.2.2 h0
      cases e1
      exact cell xs g o n hc1 hs.1
    · intro j v hj
      have : xs = [] := List.length_eq_zero_iff.1 (by have := hs.1; omega)
      rw [this] at hj; cases hj
  have hr := fun ty => run_append_grow (P := Tryz.prog) w 46 ty 5 i (.int .u8 0) Tryz.underlying46 hi hz ⟨g, o, none⟩ n n (xs.map (Value.int .u8)) hx1 hcx ⟨b2, off2, none⟩ m c (ys.map (Value.int .u8)) hy1 (cell ys b2 off2 m hc2 hy.1) (by omega) (by omega) (growslice_fits (by omega) (by rw [hby]; omega))
  have hge := grownCap_ge w (n + m) n 5
  have hcm : grownCap w (n + m) n 5 ≤ maxLen := grownCap_le_maxLen w (n + m) n 5 (by unfold maxLen; omega)
  have hlen : ((xs ++ ys).map (Value.int .u8)).length = n + m := by rw [List.length_map, List.length_append, hs.1, hy.1]
  refine ⟨w.heap.size, _, _, hr, Nat.le_refl _, ⟨by rw [hlen]; omega, .inr ⟨w.heap.size, _, _, rfl, Nat.le_refl _, heap_alloc_new w.drew _, hge, hcm, ?_, ?_⟩⟩, ⟨rfl, rfl, rfl, by simp, fun k hk => heap_alloc_old w.drew _ hk⟩⟩
  · simp only [Array.size_append, List.size_toArray, size_zeroCells, hx1, hy1, hsize]
    show n * 1 + m * 1 + (grownCap w (n + m) n 5 - (n + m)) * 1 = _
    omega
  · simp only [Array.toList_append, List.append_assoc]
    rw [← List.append_assoc, Nat.mul_one, List.take_append_of_le_length (by simp [hs.1, hy.1]), List.take_of_length_le (by simp [hs.1, hy.1])]
    simp

theorem seg_new (w : World) (l : List Int) (C : Array Value) (fr : Nat × Nat) (hC : C = (l.map (Value.int .u8)).toArray) (hl : l.length ≤ maxLen) :
    Seg (w.alloc (.cells C 5 fr)) (some ⟨w.heap.size, 0, none⟩) l.length l := by
  refine ⟨rfl, hl, fun _ => ⟨_, _, rfl, fun k hk => ?_⟩⟩
  have e := World.cell?_alloc_mark w C 5 fr k
  rw [Nat.zero_add, e, hC]
  simp [List.getD, List.getElem?_eq_getElem hk]
theorem own_at {w : World} {B m : Nat} {v : Value} {xs : List Value} (h : w.ownsRow B 5 1 v m xs) (hm : 0 < m) : ∃ g cap, v = .slice (some ⟨g, 0, none⟩) m cap := by
  rcases h.2 with ⟨_, h2⟩ | ⟨g, cap, cur, rfl, _⟩
  · omega
  · exact ⟨g, cap, rfl⟩
theorem own_seg {w : World} {B g n cap : Nat} {l : List Int} (h : w.ownsRow B 5 1 (.slice (some ⟨g, 0, none⟩) n cap) n (l.map (Value.int .u8))) : Seg w (some ⟨g, 0, none⟩) n l ∧ n ≤ cap ∧ cap ≤ maxLen ∧ g < w.heap.size := by
  have hl : l.length = n := by have := h.1; simp at this; omega
  rcases h.2 with ⟨e, _⟩ | ⟨g', cap', cur, e, hB, hh, hc, hm, hs, ht⟩
  · cases e
  · cases e
    refine ⟨⟨hl, by omega, fun _ => ⟨g, 0, rfl, fun j hj => ?_⟩⟩, hc, hm, (Array.getElem?_eq_some_iff.1 hh).1⟩
    have h1 := h.cells (g := g) rfl j (.int .u8 (l.getD j 0)) (by simp [List.getElem?_eq_getElem (show j < l.length by omega)])
    rw [add_at] at h1
    exact h1

theorem app_zero (w : World) (ty : TypeId) (x : Addr) (n c : Nat) (sa : Option Addr) : (Builtin.append_ #[46, 46] ty #[.slice (some x) n n, .slice sa 0 c]).run Tryz.prog w = .ok (.slice (some x) n n) w := by
  obtain ⟨i, hi, hz, hsize, hby⟩ := info_parts Tryz.info5
  cases sa <;> simp [Builtin.append_, run_underlying Tryz.underlying46, sizeOf, typeInfo, hi, Builtin.lenOf, storeCells, Builtin.firstCells, loadCells, loadCellsFrom]
/-- append of any bytes onto a list with no room. -/
theorem app_more (w : World) (g n m c : Nat) (sa : Option Addr) (xs ys : List Int) (hs : Seg w (some ⟨g, 0, none⟩) n xs) (hy : Seg w sa m ys) (_hg : g < w.heap.size) (hb : n + m ≤ 140737488355328) :
    ∃ (g' c' : Nat) (w' : World), (∀ ty, (Builtin.append_ #[46, 46] ty #[.slice (some ⟨g, 0, none⟩) n n, .slice sa m c]).run Tryz.prog w = .ok (.slice (some ⟨g', 0, none⟩) (n + m) c') w') ∧ (g' = g ∨ w.heap.size ≤ g') ∧
      Seg w' (some ⟨g', 0, none⟩) (n + m) (xs ++ ys) ∧ (n + m ≤ c' ∧ c' ≤ maxLen) ∧ Below w.heap.size w w' := by
  by_cases h0 : 0 < m
  · obtain ⟨b, off, rfl, _⟩ := hy.2.2 h0
    obtain ⟨g', c', w', h1, h2, h3, h4⟩ := app_full w g 0 n m c ⟨b, off, none⟩ xs ys hs hy h0 hb
    have := own_seg h3
    exact ⟨g', c', w', h1, .inr h2, this.1, ⟨this.2.1, this.2.2.1⟩, h4⟩
  · obtain rfl : m = 0 := by omega
    obtain rfl : ys = [] := List.length_eq_zero_iff.1 hy.1
    exact ⟨g, n, w, fun ty => app_zero w ty ⟨g, 0, none⟩ n c sa, .inl rfl, by simpa using hs, ⟨Nat.le_refl _, hs.2.1⟩, Below.refl _ _⟩

/-- append as a step of a region that draws its order. -/
theorem step_append_run {P : Program} {ops : Array Oper} {o : Oper} {a : Act} {w : World} {K : Act → World → Prop} {Q : Exit → Act → World → Prop} {E : Prop} (hgd : o.guard = none) (s x : Operand) (t : TypeId)
    (ho : o.op = .call { callee := .builtin .append, args := #[s, x], argTypes := #[t, t] }) (vs vx : Value) (hs : a.eval s = vs) (hx : a.eval x = vx) (v' : Value) (w' : World)
    (hr : ∀ ty, (Builtin.append_ #[t, t] ty #[vs, vx]).run P w = .ok v' w') (h : K (a.put o.dst v') w') : if Region.wanted o (yielded ops a.tmps) = true then Oper.wp P o a w K Q else E := by
  have hw : Region.wanted o (yielded ops a.tmps) = true := by simp [Region.wanted, hgd]
  rw [if_pos hw]
  subst hs hx
  unfold Oper.wp
  simp [execOp, ho, resolve, invoke, builtin, hr, Result.andThen]
  exact h
theorem own_lower {w : World} {B B' : Nat} {e : TypeId} {z n : Nat} {v : Value} {xs : List Value} (h : w.ownsRow B e z v n xs) (hB : B' ≤ B) : w.ownsRow B' e z v n xs := by
  refine ⟨h.1, ?_⟩
  rcases h.2 with h2 | ⟨g, cap, cur, rfl, h3, r⟩
  · exact .inl h2
  · exact .inr ⟨g, cap, cur, rfl, Nat.le_trans hB h3, r⟩
theorem sumBytes_seg (r : R) (w : World) : Calls Tryz.prog 66 #[nr r] w fun e w' => e = .returned (.slice (some ⟨w.heap.size, 0, none⟩) 4 4) ∧ Seg w' (some ⟨w.heap.size, 0, none⟩) 4 (fb r) ∧ Below w.heap.size w w' := by
  refine (sumBytes_any r w).mono ?_
  rintro e w' ⟨rfl, rfl⟩
  exact ⟨rfl, seg_new w (fb r) _ (0, 0) rfl (by rw [fb_len]; decide), (Below.refl _ _).alloc (Nat.le_refl _) _⟩

/-- A frame. -/
def hdL (v n : Nat) : List Int := [77, 84, (v : Int)] ++ enc n
def body (v : Nat) (p : List Int) : List Int := hdL v p.length ++ p
def frm (v : Nat) (p : List Int) : List Int := body v p ++ fb (upd 0#32 (body v p))
theorem hdL_len (v n : Nat) (h : n < 18446744073709551616) : 4 ≤ (hdL v n).length ∧ (hdL v n).length ≤ 13 := by
  have := enc_le n h
  unfold hdL; simp only [List.length_append, List.length_cons, List.length_nil]; omega
theorem byt_hdL (v n : Nat) (hv : v ≤ 2) : Byt (hdL v n) := byt_app (fun z hz => by simp at hz; omega) (byt_enc n)
theorem byt_body (v : Nat) (p : List Int) (hv : v ≤ 2) (hp : Byt p) : Byt (body v p) := byt_app (byt_hdL v _ hv) hp
theorem byt_frm (v : Nat) (p : List Int) (hv : v ≤ 2) (hp : Byt p) : Byt (frm v p) := byt_app (byt_body v p hv hp) (fb_byt _)


set_option maxHeartbeats 2000000 in
set_option maxRecDepth 100000 in
theorem seal_any (v : Nat) (sa : Option Addr) (n cap : Nat) (l : List Int) (w : World) (hv : v ≤ 2) (hs : Seg w sa n l) (hy : Byt l) (hn : n ≤ 1048576) (hH : Hal w) :
    Calls Tryz.prog 36 #[.int .i64 (v : Int), .slice sa n cap] w fun r w' => ∃ (g c : Nat), r = .returned (.tuple #[.slice (some ⟨g, 0, none⟩) (frm v l).length c, .int .i64 0]) ∧ w.heap.size ≤ g ∧ w'.ownsRow w.heap.size 5 1 (.slice (some ⟨g, 0, none⟩) (frm v l).length c) (frm v l).length ((frm v l).map (Value.int .u8)) ∧ Below w.heap.size w w' := by
  have E : Hid (verB (v : Int) = true) := by show _ = _; unfold verB; simp; omega
  have kc := fun (w : World) (C : Array Value) (n c : Nat) => Lib.run_convert_bytes_const (P := Tryz.prog) w 46 5 C n c Tryz.underlying46 Tryz.underlying5
  have hl := hs.1
  obtain ⟨FR, hFR⟩ : ∃ FR, Hid (FR = frm v l) := ⟨_, rfl⟩
  rw [← hFR.out]
  have HS := hide hs
  have HY := hide hy
  have HA := hide hH
  have hn63 : n ≤ 9223372036854775807 := by omega
  have hnn : (1048576 < (n : Int)) = False := by simp; omega
  obtain ⟨g1, c1, W2, hA1, hg1, hO1, hB1⟩ := app_full ((w.alloc (.cells #[.int .u8 77, .int .u8 84] 5 (2, 3))).alloc (.cells #[.int .u8 (v : Int)] 5)) w.heap.size 0 2 1 1 ⟨w.heap.size + 1, 0, none⟩ [77, 84] [(v : Int)]
    ((seg_new w [77, 84] _ (2, 3) rfl (by decide)).below ((Below.refl _ _).alloc (Nat.le_refl _) _) (Nat.le_refl _)) (by have := seg_new (w.alloc (.cells #[.int .u8 77, .int .u8 84] 5 (2, 3))) [(v : Int)] #[.int .u8 (v : Int)] (0, 0) rfl (by unfold maxLen; simp); simpa using this) (by decide) (by decide)
  have HO1 := hide hO1
  have B1 : Hid (Below w.heap.size w W2) := (((Below.refl _ _).alloc (Nat.le_refl _) _).alloc (by simp) _).trans (hB1.mono (by simp; omega))
  have hg1' : Hid (w.heap.size ≤ g1) := by have := hg1; simp at this; show _ ≤ _; omega
  have hl' := hide hl
  clear hO1 hB1 hg1 hs hy hH hl
  go_enter Tryz.func36, Tryz.ntmps36
  go_wp2_with fail
  refine (frVersion_any (v : Int) _).mono ?_
  rintro r w1 ⟨rfl, rfl⟩
  rw [E.out]
  go_wp2_with (first | (at_builtin; refine Lib.wpList_append_run _ rfl _ _ _ _ rfl _ _ rfl rfl _ _ (hA1 _) ?_))
  clear hA1 kc
  refine (putUint_any n _ (by omega)).mono ?_
  rintro r W3 ⟨v3, rfl, hO3, hB3⟩
  have hek := enc_le n (by omega)
  obtain ⟨EN, hEN⟩ : ∃ EN, EN = enc n := ⟨_, rfl⟩
  have HEN := hide hEN
  rw [← hEN] at hO3 hek
  clear hEN
  obtain ⟨m2, hm2⟩ : ∃ m2, m2 = EN.length := ⟨_, rfl⟩
  have HM2 := hide hm2
  rw [← hm2] at hO3 hek
  clear hm2
  obtain ⟨g2, c2, rfl⟩ := own_at hO3 (by omega)
  obtain ⟨sg2, _⟩ := own_seg hO3
  have sg1 := (own_seg HO1.out).1.below hB3 (Nat.le_refl _)
  obtain ⟨hc1a, hc1b, _⟩ := (own_seg HO1.out).2
  unfold maxLen at hc1b
  have hc1c : 3 ≤ c1 := hc1a
  obtain ⟨g3, c3, W4, hA3, hg3, hO3', hB4⟩ := app_full W3 g1 0 3 m2 c2 ⟨g2, 0, none⟩ [77, 84, (v : Int)] EN sg1 sg2 (by omega) (by omega)
  have hk3 : 3 + m2 = (hdL v n).length := by rw [HM2.out, HEN.out]; unfold hdL; simp; omega
  obtain ⟨k, hk⟩ : ∃ k, k = 3 + m2 := ⟨_, rfl⟩
  rw [← hk] at hA3 hO3'
  have B4 : Hid (Below w.heap.size w W4) := (B1.out.trans (hB3.mono B1.out.size)).trans (hB4.mono (Nat.le_trans B1.out.size hB3.size))
  have HO4 : Hid (W4.ownsRow W3.heap.size 5 1 (.slice (some ⟨g3, 0, none⟩) k c3) k ((hdL v n).map (Value.int .u8))) := by show World.ownsRow _ _ _ _ _ _ _; unfold hdL; rw [← HEN.out]; exact hO3'
  have hg3' : Hid (w.heap.size ≤ g3) := by have := hg3; have := B1.out.size; have := hB3.size; show _ ≤ _; omega
  have hHk : Hid (k = (hdL v n).length) := by show _ = _; rw [hk, hk3]
  have hkb : k ≤ 20 := by omega
  obtain ⟨hc3a, hc3b, _⟩ := (own_seg HO4.out).2
  unfold maxLen at hc3b
  have hk' : 3 ≤ k := by omega
  have hek' := hide hk
  clear hO3 hB3 sg2 sg1 hO3' hB4 hk3 hk hek HO1 B1 hg3
  go_upto_region 8 with (first | (at_builtin; refine Lib.wpList_append_run _ rfl _ _ _ _ rfl _ _ rfl rfl _ _ (hA3 _) ?_))
  clear hA3 hc1a hc1b hc1c
  obtain ⟨g5, c5, W5, hA5, hg5, hO5, hc5, hB5⟩ := app_more W4 g3 k n cap sa (hdL v n) l (own_seg HO4.out).1 (HS.out.below B4.out (Nat.le_refl _)) (own_seg HO4.out).2.2.2 (by omega)
  have B5 : Hid (Below w.heap.size w W5) := B4.out.trans (hB5.mono B4.out.size)
  have hg5' : Hid (w.heap.size ≤ g5) := by
    show _ ≤ _
    rcases hg5 with rfl | q
    · exact hg3'.out
    · exact Nat.le_trans B4.out.size q
  obtain ⟨N, hN⟩ : ∃ N, N = k + n := ⟨_, rfl⟩
  rw [← hN] at hA5 hO5 hc5
  have hNb : N ≤ 1048600 := by omega
  have hN3 : 3 ≤ N := by omega
  have hbody : Hid (hdL v n ++ l = body v l) := by show _ = _; unfold body; rw [hl'.out]
  rw [hbody.out] at hO5
  have HO5 := hide hO5
  have hc63 : c5 ≤ 9223372036854775807 := by have := hc5.2; unfold maxLen at this; omega
  have hNc := hc5.1
  have hNE := hide hN
  clear hN hg5 hO5 hB5 hc5 HO4 hc3b
  go_upto_region 9 with (first | (at_builtin; refine Lib.wpList_append_run _ rfl _ _ _ _ rfl _ _ rfl rfl _ _ (hA5 _) ?_))
  clear hA5 hc3a
  have HAL := hide (HA.out.later B5.out)
  have HYB := hide (byt_body v l hv HY.out)
  obtain ⟨BD, hBD⟩ : ∃ BD, Hid (BD = body v l) := ⟨_, rfl⟩
  rw [← hBD.out] at HO5 HYB
  obtain ⟨u, hu⟩ : ∃ u, Hid (upd 0#32 BD = u) := ⟨_, rfl⟩
  have hfr : Hid (FR = BD ++ fb u) := by show _ = _; rw [hFR.out, ← hu.out, hBD.out]; rfl
  have hfl : Hid (FR.length = N + 4) := by
    show _ = _
    rw [hfr.out, List.length_append, fb_len, (HO5.out).1]
  go_region_held3 (fun _ => True) (trivial) (first
    | (go_at_call 67; refine (sum_any _ N _ BD _ (by exact HO5.out) (by exact HYB.out) (by exact HAL.out)).mono ?_; rintro e w6 ⟨rfl, rfl⟩; rw [hu.out])
    | (go_at_call 66; refine (sumBytes_seg u _).mono ?_; rintro e w7 ⟨rfl, sg7, hb7⟩; obtain ⟨g8, c8, W8, hA8, hg8, hO8, hB8⟩ := app_full w7 g5 0 N 4 4 _ BD (fb u) (by exact Seg.below (w := W5) HO5.out ⟨hb7.os, hb7.tape, hb7.output, hb7.size, hb7.block⟩ (Nat.le_refl _)) sg7 (by decide) (by omega))
    | (refine step_append_run rfl _ _ 46 rfl _ _ rfl rfl _ _ hA8 ?_))
  have hb7' : Below W5.heap.size W5 w7 := ⟨hb7.os, hb7.tape, hb7.output, hb7.size, hb7.block⟩
  have R : Hid (w.heap.size ≤ g8 ∧ W8.ownsRow w.heap.size 5 1 (.slice (some ⟨g8, 0, none⟩) FR.length c8) FR.length (FR.map (Value.int .u8)) ∧ Below w.heap.size w W8) := by
    have z1 := B5.out.size
    have z2 := hb7'.size
    refine ⟨by omega, ?_, (B5.out.trans (hb7'.mono z1)).trans (hB8.mono (Nat.le_trans z1 z2))⟩
    rw [hfl.out, hfr.out]
    exact own_lower hO8 (Nat.le_trans z1 z2)
  have HFL := hide (show Value.slice (some ⟨g8, 0, none⟩) (N + 4) c8 = .slice (some ⟨g8, 0, none⟩) FR.length c8 by rw [hfl.out])
  clear hA8 hO8 hB8 hb7 hb7' sg7
  go_wp2
  go_ret2
  exact ⟨g8, c8, by rw [← HFL.out]; rfl, R.out.1, R.out.2.1, R.out.2.2⟩
end Go.Proofs.YtnjihfbghaefoaaGreatDoor
