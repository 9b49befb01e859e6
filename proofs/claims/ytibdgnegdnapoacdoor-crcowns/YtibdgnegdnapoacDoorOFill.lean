/- The contracts of the statements' helpers fill, grown and all. -/
import Derived.Test.YtibdgnegdnapoacDoorLRows
namespace Go.Proofs.YtibdgnegdnapoacDoor
open Go.RowKit Go.Wire1

theorem grown_refl (w : World) (row : Option Nat) : w.grownBy w row := ⟨rfl, rfl, rfl, Nat.le_refl _, fun _ _ _ => rfl⟩
theorem grown_put {w w' : World} {g : Nat} (h : w.grownBy w' (some g)) (i : Nat) (z : Value) : w.grownBy (w'.setCell ⟨g, i, none⟩ z) (some g) :=
  ⟨h.os, h.tape, h.output, by have := h.size; simpa using this, fun k hk hne => by rw [Below.heap_setCell w' ⟨g, i, none⟩ z k (fun e => hne (by rw [e]))]; exact h.block k hk hne⟩
theorem all_marks {L : List Int} {n : Nat} {mark : Int} (hl : L.length = n) (h : ∀ j, j < n → L.getD j 0 = mark) : L = List.replicate n mark := by
  apply List.ext_getElem?
  intro j
  by_cases hj : j < n
  · have := h j hj
    rw [List.getD, List.getElem?_eq_getElem (by omega)] at this
    rw [List.getElem?_eq_getElem (by omega), List.getElem?_replicate, if_pos hj]
    simpa using this
  · rw [List.getElem?_eq_none (by omega), List.getElem?_replicate, if_neg hj]

set_option maxHeartbeats 1000000 in
set_option maxRecDepth 100000 in
theorem fill_any (B g n cap : Nat) (L : List Int) (mark : Int) (w : World) (hm : Mine w B g n cap L) :
    Calls Tryd.prog 24 #[.slice (some ⟨g, 0, none⟩) n cap, .int .u8 mark] w fun e w' => ∃ v, e = .returned v ∧ Mine w' B g n cap (List.replicate n mark) ∧ w.grownBy w' (some g) := by
  have HM := hide hm
  have hn : n ≤ maxLen := by have := hm.2.2.1; have := hm.2.2.2.1; omega
  unfold maxLen at hn
  clear hm
  go_enter Tryd.func24, Tryd.ntmps24
  go_wp2_with fail
  go_loopw [4] (fun x wr => ∃ (i : Nat) (L' : List Int), x = .int .i64 (i : Int) ∧ i ≤ n ∧ Hid (Mine wr B g n cap L') ∧ Hid (∀ j, j < i → L'.getD j 0 = mark) ∧ Hid (w.grownBy wr (some g))) (fun x _ => n - (intOf x).toNat)
  case atStart => exact ⟨0, L, rfl, by omega, HM, fun j hj => by omega, grown_refl _ _⟩
  case round =>
    clear HM
    obtain ⟨i, L', rfl, hin, HM, HL, HW⟩ := hrel
    by_cases hlt : i < n
    · have ci : wr.cell? ⟨g, i, none⟩ = some (.int .u8 (L'.getD i 0)) := by
        obtain ⟨b', o', e', hc'⟩ := HM.out.seg.2.2 (by omega)
        cases e'
        have := hc' i hlt
        rwa [Nat.zero_add] at this
      have fi := HM.out.1.frozenAt i
      have HM1 : Hid (Mine (wr.setCell ⟨g, i, none⟩ (.int .u8 mark)) B g n cap (L'.set i mark)) := HM.out.store i mark
      have HW1 : Hid (w.grownBy (wr.setCell ⟨g, i, none⟩ (.int .u8 mark)) (some g)) := grown_put HW.out i _
      have HL1 : Hid (∀ j, j < i + 1 → (L'.set i mark).getD j 0 = mark) := fun j hj => by
        have hl := HM.out.2.1
        rw [List.getD, List.getElem?_set]
        by_cases e : i = j
        · rw [if_pos e, if_pos (by omega)]; rfl
        · rw [if_neg e]; exact HL.out j (by omega)
      clear HM HL HW
      generalize L'.getD i 0 = zi at *
      generalize L'.set i mark = L2 at *
      go_wp2
      go_roundw
      case rel => exact ⟨i + 1, L2, by go_num, by omega, HM1, HL1, HW1⟩
      case measure => simp [intOf]; omega
    · have hL := all_marks HM.out.2.1 (fun j hj => HL.out j (by omega))
      subst hL
      go_wp2
      go_end0
      exact ⟨_, rfl, HM.out, HW.out⟩

set_option maxHeartbeats 1000000 in
set_option maxRecDepth 100000 in
theorem all_any (a : Option Addr) (n cap : Nat) (mark : Int) (w : World) (hs : Seg w a n (List.replicate n mark)) :
    Calls Tryd.prog 26 #[.slice a n cap, .int .u8 mark, .int .i64 (n : Int)] w fun e w' => e = .returned (.bool true) ∧ w' = w := by
  have hn := hs.2.1
  unfold maxLen at hn
  have HS := hide hs
  clear hs
  have hnn : (((n : Nat) : Int) != ((n : Nat) : Int)) = false := by simp
  have hmm : (mark != mark) = false := by simp
  go_enter Tryd.func26, Tryd.ntmps26
  go_wp2_with fail
  go_loop [7] (fun x => ∃ i : Nat, x = .int .i64 (i : Int) ∧ i ≤ n) (fun x => n - (intOf x).toNat)
  case atStart => exact ⟨0, rfl, by omega⟩
  case round =>
    obtain ⟨i, rfl, hin⟩ := hrel
    by_cases hlt : i < n
    · obtain ⟨b, o, rfl, hc⟩ := HS.out.2.2 (by omega)
      have ci : w.cell? ⟨b, o + i, none⟩ = some (.int .u8 mark) := by
        have := hc i hlt
        rw [List.getD, List.getElem?_replicate, if_pos hlt] at this
        exact this
      clear hc
      go_wp2
      go_round
      case rel => exact ⟨i + 1, by go_num, by omega⟩
      case measure => simp [intOf]; omega
    · go_wp2
      go_ret
      exact ⟨rfl, rfl⟩

theorem own_some {w : World} {B : Nat} {e : TypeId} {s : Nat} {v : Value} {n : Nat} {xs : List Value} (h : w.ownsRow B e s v n xs) (hn : 0 < n) : ∃ g cap, v = .slice (some ⟨g, 0, none⟩) n cap := by
  rcases h.2 with ⟨_, h2⟩ | ⟨g, cap, cur, rfl, _⟩
  · omega
  · exact ⟨g, cap, rfl⟩
theorem own_base {w : World} {B C : Nat} {e : TypeId} {s : Nat} {v : Value} {n : Nat} {xs : List Value} (h : w.ownsRow B e s v n xs) (hC : C ≤ B) : w.ownsRow C e s v n xs := by
  refine ⟨h.1, ?_⟩
  rcases h.2 with h2 | ⟨g, cap, cur, e, hB, r⟩
  · exact .inl h2
  · exact .inr ⟨g, cap, cur, e, by omega, r⟩

set_option maxHeartbeats 1000000 in
set_option maxRecDepth 100000 in
theorem grown_any (B g n : Nat) (mark : Int) (w : World) (hm : Mine w B g n n (List.replicate n mark)) (hn : n ≤ 1000) :
    Calls Tryd.prog 25 #[.slice (some ⟨g, 0, none⟩) n n, .int .u8 mark] w fun e w' => ∃ g' c', e = .returned (.slice (some ⟨g', 0, none⟩) (n + 96) c') ∧ Mine w' w.heap.size g' (n + 96) c' (List.replicate (n + 96) mark) ∧ Below w.heap.size w w' := by
  obtain ⟨i0, hi, hz0, hz1, hz2⟩ := info_parts Tryd.info5
  obtain ⟨XL0, hX0⟩ : ∃ X, Hid (List.replicate n mark = X) := ⟨_, hide rfl⟩
  rw [hX0.out] at hm
  have HM := hide hm
  clear hm
  go_enter Tryd.func25, Tryd.ntmps25
  go_wp2_with fail
  go_loopw [0, 5] (fun y x wr => ∃ m : Nat, x = .int .i64 (m : Int) ∧ m ≤ 96 ∧ ((m = 0 ∧ y = .slice (some ⟨g, 0, none⟩) n n ∧ wr = w) ∨ (∃ g4 c4 : Nat, 0 < m ∧ y = .slice (some ⟨g4, 0, none⟩) (n + m) c4 ∧ Hid (wr.ownsRow w.heap.size 5 1 (.slice (some ⟨g4, 0, none⟩) (n + m) c4) (n + m) ((List.replicate (n + m) mark).map (Value.int .u8))))) ∧ Hid (Below w.heap.size w wr)) (fun _ x _ => 96 - (intOf x).toNat)
  case atStart => exact ⟨0, rfl, by omega, .inl ⟨rfl, rfl, rfl⟩, Below.refl _ _⟩
  case round =>
    obtain ⟨m, rfl, hm96, hor, HV⟩ := hrel
    have hsz := HV.out.size
    by_cases hmt : m < 96
    · rcases hor with ⟨rfl, rfl, rfl⟩ | ⟨g4, c4, hm0, rfl, HO⟩
      · go_wp2_with (first
          | (at_builtin; refine wpList_append_full rfl _ _ 30 rfl B 5 i0 (.int .u8 0) 1 1 Tryd.underlying30 hi hz0 hz1 hz2 rfl g n _ rfl (HM.out.1.alloc _) ⟨wr.heap.size, 0, none⟩ 1 1 [.int .u8 mark] rfl rfl ?c1 (by omega) (by unfold maxLen; omega) (by omega) ?_))
        case c1 =>
          intro j u hj
          match j, hj with
          | 0, hj => simp at hj; subst hj; simp [Addr.add]
        intro c4 w4 hown hbel
        try simp only [World.size_alloc] at hown
        try simp only [World.size_alloc] at hbel
        try simp only [World.size_alloc]
        have HO1 : Hid (w4.ownsRow wr.heap.size 5 1 (.slice (some ⟨wr.heap.size + 1, 0, none⟩) (n + 1) c4) (n + 1) ((List.replicate (n + 1) mark).map (Value.int .u8))) := by
          have e : List.replicate (n + 1) mark = XL0 ++ [mark] := by rw [← hX0.out, List.replicate_succ']
          rw [e, List.map_append]
          exact own_base hown (by omega)
        have HV1 : Hid (Below wr.heap.size wr w4) := ((Below.refl _ _).alloc (Nat.le_refl _) _).trans (hbel.mono (by omega))
        clear hown hbel
        go_wp2
        go_roundw
        case rel => exact ⟨1, by go_num, by omega, .inr ⟨_, _, by omega, rfl, HO1⟩, HV1⟩
        case measure => simp [intOf]
      · obtain ⟨XL, hXL⟩ : ∃ X, Hid (List.replicate (n + m) mark = X) := ⟨_, hide rfl⟩
        rw [hXL.out] at HO
        have HOA := hide (HO.out.alloc (.cells #[.int .u8 mark] 5))
        go_wp2_with (first
          | (at_builtin; refine wpList_append_own _ rfl _ _ 30 rfl w.heap.size 5 i0 (.int .u8 0) 1 1 Tryd.underlying30 hi hz0 hz1 hz2 rfl (by decide) _ _ _ rfl HOA.out ⟨wr.heap.size, 0, none⟩ 1 1 [.int .u8 mark] rfl rfl ?c1 ?c2 ?c3 ?c4 ?c5 ?_))
        case c1 =>
          intro j u hj
          match j, hj with
          | 0, hj => simp at hj; subst hj; simp [Addr.add]
        case c2 => intro u hu; simp at hu; subst hu; rfl
        case c3 => unfold maxLen; omega
        case c4 => omega
        case c5 => simp; omega
        intro v' w1 hown' hgrow _
        obtain ⟨g5, c5, rfl⟩ := own_some hown' (by omega)
        have HO1 : Hid (w1.ownsRow w.heap.size 5 1 (.slice (some ⟨g5, 0, none⟩) (n + (m + 1)) c5) (n + (m + 1)) ((List.replicate (n + (m + 1)) mark).map (Value.int .u8))) := by
          have e : List.replicate (n + (m + 1)) mark = XL ++ [mark] := by rw [← hXL.out, ← Nat.add_assoc, List.replicate_succ']
          rw [e, List.map_append]; exact hown'
        have HV1 : Hid (Below w.heap.size w w1) := by
          refine Below.grown (HV.out.alloc hsz _) hgrow (by simp; omega) (fun k hk => ?_)
          exact (HO.out.lt k hk).1
        clear hown' hgrow HOA HO HV
        go_wp2
        go_roundw
        case rel => exact ⟨m + 1, by go_num, by omega, .inr ⟨_, _, by omega, rfl, HO1⟩, HV1⟩
        case measure => simp [intOf]; omega
    · rcases hor with ⟨e, _⟩ | ⟨g4, c4, hm0, rfl, HO⟩
      · omega
      · obtain rfl : m = 96 := by omega
        go_wp2
        go_ret
        refine ⟨g4, c4, rfl, ⟨HO.out, by simp, ?_⟩, HV.out⟩
        rcases HO.out.2 with ⟨h, _⟩ | ⟨g', cap', cur, h3, h4, h5, h6, h7, _⟩
        · cases h
        · injection h3 with h7' h8 h9
          injection h7' with h7'
          injection h7' with h7'
          subst h7' h9
          exact ⟨h6, h7, h4⟩
end Go.Proofs.YtibdgnegdnapoacDoor
