/- The statements' pair of disks: the room, lay. -/
import Derived.Test.YtahpnfbjpdnapaaDkRef
import Derived.Maps.AppendAt
namespace Go.Proofs.Ytahpnfbjpdnapaa
open Go.RowKit Go.Wire1 Go.MuLone

theorem lay_set {l R : List Int} {k : Nat} (hk : k < l.length) (hr : k < R.length) : (l.take k ++ R.drop k).set k (l.getD k 0) = l.take (k + 1) ++ R.drop (k + 1) := by
  have e1 : (l.take k).length = k := by rw [List.length_take]; omega
  rw [List.set_append_right _ _ (by omega), e1, Nat.sub_self, List.drop_eq_getElem_cons hr, List.set_cons_zero, take_next hk, List.append_assoc]
  rfl
theorem lay_marks {l R : List Int} {n : Nat} (hn : l.length = n) (hr : n + 3 ≤ R.length) : (((l ++ R.drop n).set n 91).set (n + 1) 92).set (n + 2) 93 = (l ++ [91, 92, 93]) ++ R.drop (n + 3) := by
  have h1 : R.drop n = R[n]'(by omega) :: R[n + 1]'(by omega) :: R[n + 2]'(by omega) :: R.drop (n + 3) := by
    rw [List.drop_eq_getElem_cons (by omega), List.drop_eq_getElem_cons (by omega), List.drop_eq_getElem_cons (by omega)]
  rw [h1, List.set_append_right _ _ (by omega), hn, Nat.sub_self, List.set_append_right _ _ (by omega), hn, show n + 1 - n = 1 by omega, List.set_append_right _ _ (by omega), hn, show n + 2 - n = 2 by omega, List.append_assoc]
  rfl

set_option maxHeartbeats 4000000 in
set_option maxRecDepth 100000 in
/-- The room is too short: a new one. -/
theorem lay_newC (w : World) (pb : Nat) (x0 x1 rv : Value) (rn : Nat) (a : Option Addr) (n cap : Nat) (l : List Int) (LF : List Value) (HLF : Hid (LF = (l ++ [91, 92, 93]).map (Value.int .u8))) (hb : Blk w pb [x0, x1, rv]) (hrv : ∃ ra rc, rv = .slice ra rn rc) (hs : Seg w a n l) (hn : n ≤ 140737488351232) (hlt : rn < n + 3) :
    Calls Try.prog 38 #[.pointer (some ⟨pb, 0, none⟩), .slice a n cap] w fun r w' => ∃ g c, r = .returned (.slice (some ⟨g, 0, none⟩) (n + 3) c) ∧ w.heap.size ≤ g ∧ w'.ownsRow w.heap.size 5 1 (.slice (some ⟨g, 0, none⟩) (n + 3) c) (n + 3) LF ∧ Blk w' pb [x0, x1, .slice (some ⟨g, 0, none⟩) (n + 3) c] ∧ Tch pb none w w' := by
  obtain ⟨i0, hi, hz0, hz1, hz2⟩ := info_parts Try.info5
  obtain ⟨ra, rc, rfl⟩ := hrv
  have HBX := hide hb
  have c2 := hb.cell 2 _ rfl
  have f2 := hb.thaw 2
  have HS := hide hs
  have HL := hide hs.1
  have hpl := hb.lt
  have q1 : (rn : Int) < (n : Int) + 3 := by omega
  clear hb hs
  go_enter Try.func38, Try.ntmps38
  go_wp2_with fail
  refine (bytes_any a n cap l _ HS.out (by omega)).mono ?_
  rintro e w1 ⟨v1, rfl, hown1, hb1⟩
  rw [HL.out] at hown1
  obtain ⟨s1, k1, rfl⟩ := own_shape hown1
  have BX1 := HBX.out.on hb1
  have d2 := BX1.cell 2 _ rfl
  have e2 := BX1.thaw 2
  have far1 : (Value.slice s1 n k1).ownBlock ≠ some pb := fun e => by have := (hown1.lt _ e).1; omega
  have T2 : Hid (Tch pb none w (w1.setCell ⟨pb, 2, none⟩ (.slice s1 n k1))) := (Tch.ofBelow hb1).setB _
  have hsz1 := hb1.size
  have hA3 : Below w1.heap.size (w1.setCell ⟨pb, 2, none⟩ (.slice s1 n k1)) ((w1.setCell ⟨pb, 2, none⟩ (.slice s1 n k1)).alloc (.cells #[.int .u8 91, .int .u8 92, .int .u8 93] 5)) := (Below.refl _ _).alloc (by simp [World.setCell]) _
  have hs2 : (w1.setCell ⟨pb, 2, none⟩ (.slice s1 n k1)).heap.size = w1.heap.size := by simp [World.setCell]
  have OW3 : Hid (((w1.setCell ⟨pb, 2, none⟩ (.slice s1 n k1)).alloc (.cells #[.int .u8 91, .int .u8 92, .int .u8 93] 5)).ownsRow w.heap.size 5 1 (.slice s1 n k1) n (l.map (Value.int .u8))) := own_below (own_box hown1 far1) hA3 (by omega)
  have BX3 : Hid (Blk ((w1.setCell ⟨pb, 2, none⟩ (.slice s1 n k1)).alloc (.cells #[.int .u8 91, .int .u8 92, .int .u8 93] 5)) pb [x0, x1, .slice s1 n k1]) := (BX1.setAt 2 _).on (by rw [hs2]; exact hA3)
  have T3 : Hid (Tch pb none w ((w1.setCell ⟨pb, 2, none⟩ (.slice s1 n k1)).alloc (.cells #[.int .u8 91, .int .u8 92, .int .u8 93] 5))) := T2.out.trans (Tch.ofBelow (by rw [hs2]; exact hA3)) (Lat.refl _ _)
  have HS2 := hide hs2
  clear hown1 hb1 BX1 hA3 hs2
  obtain ⟨LM, hLM⟩ : ∃ LM, LM = l.map (Value.int .u8) := ⟨_, rfl⟩
  rw [← hLM] at OW3
  have HLM := hide hLM
  clear hLM
  go_wp2_with (first | (at_builtin; refine wpList_append_own_at _ rfl _ _ 27 rfl w.heap.size 5 i0 (.int .u8 0) 1 1 Try.underlying27 hi hz0 hz1 hz2 rfl (by decide) _ _ _ rfl (by exact OW3.out) ⟨w1.heap.size, 0, none⟩ 3 3 [.int .u8 91, .int .u8 92, .int .u8 93] rfl rfl ?c1 ?c2 ?c3 ?c4 ?c5 ?_))
  case c1 =>
    intro j u hj
    have hx := HS2.out
    match j, hj with
    | 0, hj => simp at hj; subst hj; simp [Addr.add, World.cell?_alloc_at, hx]
    | 1, hj => simp at hj; subst hj; simp [Addr.add, World.cell?_alloc_at, hx]
    | 2, hj => simp at hj; subst hj; simp [Addr.add, World.cell?_alloc_at, hx]
  case c2 => intro u hu; simp at hu; rcases hu with rfl | rfl | rfl <;> rfl
  case c3 => unfold maxLen; omega
  case c4 => omega
  case c5 => simp only [sz_alloc]; have := HS2.out; omega
  intro v' w4 hown' hgrow _ hat4
  obtain ⟨g, c, hv, hgB⟩ : ∃ g c, v' = .slice (some ⟨g, 0, none⟩) (n + 3) c ∧ w.heap.size ≤ g := by
    rcases hown'.2 with ⟨_, h0⟩ | ⟨g, c, cur, e, hB, _⟩
    · omega
    · exact ⟨g, c, e, hB⟩
  subst hv
  have hpb4 : w4.heap[pb]? = ((w1.setCell ⟨pb, 2, none⟩ (.slice s1 n k1)).alloc (.cells #[.int .u8 91, .int .u8 92, .int .u8 93] 5)).heap[pb]? := hgrow.block pb BX3.out.lt (fun e => far1 e.symm)
  have BX4 := BX3.out.of_block hpb4
  have d4 := BX4.cell 2 _ rfl
  have e4 := BX4.thaw 2
  have T4 : Tch pb none w w4 := T3.out.trans ⟨hgrow.os, hgrow.tape, hgrow.output, hgrow.size, fun k hk hb hr => hgrow.block k hk (by
    intro e
    exact hr e)⟩ (r' := (Value.slice s1 n k1).ownBlock) (.inr (fun k hk => (OW3.out.lt k hk).1))
  have BX5 := hide (BX4.setAt 2 (.slice (some ⟨g, 0, none⟩) (n + 3) c))
  have T5 := hide (T4.setB (o := 2) (.slice (some ⟨g, 0, none⟩) (n + 3) c))
  have OW5 : Hid ((w4.setCell ⟨pb, 2, none⟩ (.slice (some ⟨g, 0, none⟩) (n + 3) c)).ownsRow w.heap.size 5 1 (.slice (some ⟨g, 0, none⟩) (n + 3) c) (n + 3) LF) := by
    show World.ownsRow _ _ _ _ _ _ _
    rw [HLF.out, List.map_append, ← HLM.out]
    exact own_box hown' (fun e => by have e2 : g = pb := Option.some.inj e; omega)
  have HG := hide hgB
  clear hown' hgrow hat4 BX4 T4 hpb4 hgB
  go_wp2
  go_ret
  exact ⟨g, c, rfl, HG.out, OW5.out, BX5.out, T5.out⟩

set_option maxHeartbeats 4000000 in
set_option maxRecDepth 100000 in
/-- The room is long enough: it is written in place. -/
theorem lay_oldC (w : World) (pb : Nat) (x0 x1 : Value) (g rc rn m3 : Nat) (R LF : List Int) (B : Nat) (a : Option Addr) (n cap : Nat) (l : List Int) (HLF : Hid (LF = (l ++ [91, 92, 93]) ++ R.drop (n + 3))) (HM3 : Hid (m3 = n + 3)) (hb : Blk w pb [x0, x1, .slice (some ⟨g, 0, none⟩) rn rc]) (hM : Mine w B g rn rc R) (hpg : pb ≠ g) (hs : Seg w a n l) (hsep : ∀ x, a = some x → 0 < n → x.block ≠ g) (hn : n ≤ 140737488351232) (hlt : n + 3 ≤ rn) (hrl : rn ≤ 140737488355328) :
    Calls Try.prog 38 #[.pointer (some ⟨pb, 0, none⟩), .slice a n cap] w fun r w' => r = .returned (.slice (some ⟨g, 0, none⟩) m3 rc) ∧ Mine w' B g rn rc LF ∧ Tch pb (some g) w w' ∧ w'.heap[pb]? = w.heap[pb]? := by
  have c2 := hb.cell 2 _ rfl
  have HM := hide hM
  have HS := hide hs
  have HL := hide hs.1
  have HRL : Hid (R.length = rn) := hM.2.1
  have HSP := hide hsep
  have HLM : Hid ((((l ++ R.drop n).set n 91).set (n + 1) 92).set (n + 2) 93 = LF) := by show _ = _; rw [HLF.out]; exact lay_marks hs.1 (by rw [HRL.out]; exact hlt)
  have hrc : rn ≤ rc := hM.2.2.1
  have hrm : rc ≤ 9223372036854775807 := by have := hM.2.2.2.1; unfold maxLen at this; omega
  have hgl : Hid (g < w.heap.size) := (hM.1.lt g rfl).2
  clear hb hM hs hsep
  have m3n : n + 3 = m3 := HM3.out.symm
  have q0 : m3 ≤ rn := by omega
  have q1 : ¬ ((rn : Int) < (m3 : Int)) := by omega
  have q2 : (n : Int) + 3 = (m3 : Int) := by omega
  have q4 : (m3 : Int) ≤ (rc : Int) := by omega
  have q5 : IntKind.i64.wrap (m3 : Int) = (m3 : Int) := by simp only [IntKind.wrap_i64]; omega
  have q6 : (n : Int) < (m3 : Int) := by omega
  have q7 : (n : Int) + 1 < (m3 : Int) := by omega
  have q8 : (n : Int) + 2 < (m3 : Int) := by omega
  have HM3' := hide m3n
  clear m3n
  go_enter Try.func38, Try.ntmps38
  go_wp2
  go_loopw [7] (fun iv wr => ∃ k : Nat, iv = .int .i64 (k : Int) ∧ k ≤ n ∧ Hid (Mine wr B g rn rc (l.take k ++ R.drop k)) ∧ Hid (Tch pb (some g) w wr) ∧ Hid (wr.heap[pb]? = w.heap[pb]?)) (fun iv _ => n - (intOf iv).toNat)
  case atStart => exact ⟨0, rfl, Nat.zero_le _, by rw [List.take_zero, List.nil_append, List.drop_zero]; exact HM, Tch.refl _ _ _, rfl⟩
  case round =>
    obtain ⟨k, rfl, hk, HMk, HT, HPB⟩ := hrel
    by_cases hkn : k < n
    · obtain ⟨ba, oa, rfl, hca⟩ := HS.out.2.2 (by omega)
      have hbg : ba ≠ g := HSP.out ⟨ba, oa, none⟩ rfl (by omega)
      have hapb : Hid (wr.cell? ⟨ba, oa + k, none⟩ = some (.int .u8 (l.getD k 0))) := by
        have h1 := hca k hkn
        by_cases e : ba = pb
        · subst e; exact (World.cell?_of_block (a := ⟨ba, oa + k, none⟩) HPB.out).trans h1
        · exact (World.cell?_of_block (a := ⟨ba, oa + k, none⟩) (HT.out.block ba (cell_lt h1) e (fun x => hbg (Option.some.inj x)))).trans h1
      have ca := hapb.out
      have kg : wr.cell? ⟨g, k, none⟩ = some (.int .u8 ((l.take k ++ R.drop k).getD k 0)) := by
        obtain ⟨b9, o9, e9, h9⟩ := HMk.out.seg.2.2 (by omega)
        cases e9
        have := h9 k (by omega)
        rw [Nat.zero_add] at this
        exact this
      have fg : wr.frozen? ⟨g, k, none⟩ = false := by
        rcases HMk.out.1.2 with ⟨e, _⟩ | ⟨g', cap', cur, e, _, hh, _⟩
        · cases e
        · cases e; exact frozen_of_row wr g k cur 5 hh
      have q9 : (k : Int) < (m3 : Int) := by omega
      have HMn : Hid (Mine (wr.setCell ⟨g, k, none⟩ (.int .u8 (l.getD k 0))) B g rn rc (l.take (k + 1) ++ R.drop (k + 1))) := by
        have := HMk.out.store k (l.getD k 0)
        rw [lay_set (by rw [HL.out]; exact hkn) (by rw [HRL.out]; omega)] at this
        exact this
      have HTn : Hid (Tch pb (some g) w (wr.setCell ⟨g, k, none⟩ (.int .u8 (l.getD k 0)))) := HT.out.trans tch_row (Lat.refl _ _)
      have HPn : Hid ((wr.setCell ⟨g, k, none⟩ (.int .u8 (l.getD k 0))).heap[pb]? = w.heap[pb]?) := (Below.heap_setCell _ _ _ _ (by exact hpg)).trans HPB.out
      clear hca hapb
      generalize l.getD k 0 = z at *
      generalize (l.take k ++ R.drop k).getD k 0 = y at *
      go_wp2
      go_roundw
      case rel => exact ⟨k + 1, by go_num, by omega, HMn, HTn, HPn⟩
      case measure => simp [intOf]; omega
    · obtain rfl : n = k := by omega
      rw [List.take_of_length_le (by rw [HL.out]; exact Nat.le_refl _)] at HMk
      have wc : ∀ (W : World) (L : List Int) (j : Nat), Mine W B g rn rc L → j < rn → W.cell? ⟨g, j, none⟩ = some (.int .u8 (L.getD j 0)) ∧ W.frozen? ⟨g, j, none⟩ = false := fun W L j hW hj => by
        refine ⟨?_, ?_⟩
        · obtain ⟨b9, o9, e9, h9⟩ := hW.seg.2.2 (by omega)
          cases e9
          have := h9 j hj
          rw [Nat.zero_add] at this
          exact this
        · rcases hW.1.2 with ⟨e, _⟩ | ⟨g', cap', cur, e, _, hh, _⟩
          · cases e
          · cases e; exact frozen_of_row W g j cur 5 hh
      have M1 := HMk.out.store n 91
      have M2 := M1.store (n + 1) 92
      have M3 := M2.store (n + 2) 93
      rw [HLM.out] at M3
      obtain ⟨a1, b1⟩ := wc _ _ n HMk.out (by omega)
      obtain ⟨a2, b2⟩ := wc _ _ (n + 1) HMk.out (by omega)
      obtain ⟨a3, b3⟩ := wc _ _ (n + 2) HMk.out (by omega)
      have HM9 := hide M3
      have HT9 : Hid (Tch pb (some g) w (((wr.setCell ⟨g, n, none⟩ (.int .u8 91)).setCell ⟨g, n + 1, none⟩ (.int .u8 92)).setCell ⟨g, n + 2, none⟩ (.int .u8 93))) := ((HT.out.trans tch_row (Lat.refl _ _)).trans tch_row (Lat.refl _ _)).trans tch_row (Lat.refl _ _)
      have HP9 : Hid ((((wr.setCell ⟨g, n, none⟩ (.int .u8 91)).setCell ⟨g, n + 1, none⟩ (.int .u8 92)).setCell ⟨g, n + 2, none⟩ (.int .u8 93)).heap[pb]? = w.heap[pb]?) := by
        show _ = _
        rw [Below.heap_setCell _ _ _ _ (by exact hpg), Below.heap_setCell _ _ _ _ (by exact hpg), Below.heap_setCell _ _ _ _ (by exact hpg)]
        exact HPB.out
      clear M1 M2 M3 wc
      generalize (l ++ R.drop n).getD n 0 = z1 at *
      generalize (l ++ R.drop n).getD (n + 1) 0 = z2 at *
      generalize (l ++ R.drop n).getD (n + 2) 0 = z3 at *
      go_wp2
      go_ret
      exact ⟨rfl, HM9.out, HT9.out, HP9.out⟩

end Go.Proofs.Ytahpnfbjpdnapaa
