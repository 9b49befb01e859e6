/- The contracts of slices.Grow (on bytes), of a stream's gather and takePayload. -/
import Derived.Test.YtiajkdjljilndaaDoorFrLen
import Derived.Lib.AppendZerosOnto
import Derived.Laws.CopyOwn
import Derived.Lib.SliceRun
import Derived.Deep.Cut
namespace Go.Proofs.YtiajkdjljilndaaDoor
open Go.RowKit Go.Wire1 Go.Crc2 Go.Frm

set_option maxHeartbeats 800000 in
set_option maxRecDepth 100000 in
theorem grow_room (base : Option Addr) (l c n : Nat) (w : World) (hlc : l ≤ c) (hc63 : c ≤ 9223372036854775807) (hn63 : n ≤ 9223372036854775807) (hroom : l + n ≤ c) :
    Calls Tryd.prog 52 #[.slice base l c, .int .i64 (n : Int)] w fun e w' => e = .returned (.slice base l c) ∧ w' = w := by
  have h1 : ¬ ((n : Int) < 0) := by omega
  have h2 : wrap64 ((c : Int) - (l : Int)) = (c : Int) - (l : Int) := by unfold wrap64; omega
  have h3 : wrap64 ((n : Int) - ((c : Int) - (l : Int))) = (n : Int) - ((c : Int) - (l : Int)) := by unfold wrap64; omega
  have h4 : ¬ ((n : Int) - ((c : Int) - (l : Int)) > 0) := by omega
  go_enter Tryd.func52, Tryd.ntmps52
  go_wp2
  go_ret
  exact ⟨rfl, rfl⟩

/-- What Grow leaves where there was no room. -/
def Grew (w : World) (l n c : Nat) (cs : List Value) (e : Ending) (w' : World) : Prop := ∃ (G : Nat) (zs : List Value), l + n ≤ G ∧ G ≤ maxLen ∧ zs.length = G - c ∧ e = .returned (.slice (some ⟨w.heap.size, 0, none⟩) l G) ∧ w' = w.drew.alloc (.cells (cs ++ zs).toArray 5)

set_option maxHeartbeats 800000 in
set_option maxRecDepth 100000 in
theorem grow_grow (base : Option Addr) (l c n : Nat) (cs : List Value) (w : World) (hlc : l ≤ c) (hroom : c < l + n) (hbig : l + n ≤ 140737488355328)
    (hcl : cs.length = c) (hnil : base = none → c = 0) (hcs : ∀ a, base = some a → ∀ j v, cs[j]? = some v → w.cell? (a.add j) = some v) :
    Calls Tryd.prog 52 #[.slice base l c, .int .i64 (n : Int)] w fun e w' => Grew w l n c cs e w' := by
  obtain ⟨i0, hi0, hz0, hz1, hz2⟩ := info_parts Tryd.info5
  have h1 : ¬ ((n : Int) < 0) := by omega
  have h2 : wrap64 ((c : Int) - (l : Int)) = (c : Int) - (l : Int) := by unfold wrap64; omega
  have h3 : wrap64 ((n : Int) - ((c : Int) - (l : Int))) = (n : Int) - ((c : Int) - (l : Int)) := by unfold wrap64; omega
  have h4 : (n : Int) - ((c : Int) - (l : Int)) > 0 := by omega
  have hck : c + (l + n - c) = l + n := by omega
  have hold : (Builtin.firstCells i0.size c (.slice base c c)).run Tryd.prog w.drew = .ok cs.toArray w.drew := by
    cases base with
    | none =>
      have h0 := hnil rfl
      subst h0
      have hc0 : cs = [] := List.length_eq_zero_iff.1 hcl
      rw [hc0]
      exact run_firstCells_none w.drew i0.size 0 0 0
    | some a => exact run_firstCells_some w.drew i0.size c a c c cs (by rw [hcl, hz1]; omega) (fun j v hj => hcs a rfl j v hj)
  obtain ⟨G, hG⟩ : ∃ G, G = grownCap w (l + n) c 5 := ⟨_, rfl⟩
  have hGn : l + n ≤ G := by rw [hG]; exact grownCap_ge w _ _ _
  have hGm : G ≤ maxLen := by rw [hG]; exact grownCap_le_maxLen w (l + n) c 5 (by unfold maxLen; omega)
  obtain ⟨zs, hzs⟩ : ∃ zs : List Value, zs = (Builtin.zeroCells (Value.cells (.int .u8 0)) (l + n - c)).toList ++ (Builtin.zeroCells (Value.cells (.int .u8 0)) (G - (l + n))).toList := ⟨_, rfl⟩
  have hzl : zs.length = G - c := by rw [hzs]; simp [Builtin.zeroCells, Value.cells]; omega
  have hrz : ∀ ty, (Builtin.append_ #[22, 3] ty #[.slice base c c, .int .i64 ((n : Int) - ((c : Int) - (l : Int)))]).run Tryd.prog w =
      .ok (.slice (some ⟨w.heap.size, 0, none⟩) (l + n) G) (w.drew.alloc (.cells (cs ++ zs).toArray 5)) := fun ty => by
    have h := Lib.run_append_grow_zeros w 22 3 ty 5 i0 (.int .u8 0) .i64 .i64 Tryd.underlying22 Tryd.underlying3 hi0 hz0 base c c cs hold (l + n - c) (by omega) (by omega) (by omega) (by omega)
      (by rw [hz2]; omega) (by rw [hck]; exact growslice_fits hroom (by rw [hz2]; omega))
    rw [hck, ← hG] at h
    rw [show (n : Int) - ((c : Int) - (l : Int)) = ((l + n - c : Nat) : Int) by omega, h, hzs]
    congr 3
    apply Array.ext'
    simp
  have hG63 : G ≤ 9223372036854775807 := by unfold maxLen at hGm; omega
  have HE : Hid (Grew w l n c cs (.returned (.slice (some ⟨w.heap.size, 0, none⟩) l G)) (w.drew.alloc (.cells (cs ++ zs).toArray 5))) := ⟨G, zs, hGn, hGm, hzl, rfl, rfl⟩
  clear hold hck hG hcs hcl hGm hzl hzs hi0 hz0 hz1 hz2
  go_enter Tryd.func52, Tryd.ntmps52
  cases base with
  | none =>
    have h0 := hnil rfl
    subst h0
    obtain rfl : l = 0 := by omega
    go_wp2_with (at_builtin; refine Lib.wpList_append_run _ rfl _ _ _ _ rfl _ _ rfl rfl _ _ (hrz _) ?_)
    all_goals go_ret
    all_goals exact HE.out
  | some a =>
    obtain ⟨ab, ao, asp⟩ := a
    go_wp2_with (at_builtin; refine Lib.wpList_append_run _ rfl _ _ _ _ rfl _ _ rfl rfl _ _ (hrz _) ?_)
    all_goals go_ret
    all_goals exact HE.out

/-- What Grow answers on a row of our own: a block with room for n more, the row at its beginning. -/
def GrewAny (w : World) (pv : Value) (E0 n m : Nat) (xs : List Value) (e : Ending) (w' : World) : Prop := ∃ (g cap : Nat) (cur : List Value), e = .returned (.slice (some ⟨g, 0, none⟩) n cap) ∧ n + m ≤ cap ∧ cap ≤ maxLen ∧ cur.length = cap ∧ cur.take n = xs ∧ E0 ≤ g ∧
      w'.heap[g]? = some (.cells cur.toArray 5 (0, 0)) ∧ Below w.heap.size w w' ∧ (pv.ownBlock = some g ∨ g = w.heap.size)
theorem grow_any (pv : Value) (E0 n m : Nat) (xs : List Value) (w : World) (h : w.ownsRow E0 5 1 pv n xs) (hE : E0 ≤ w.heap.size) (hm : 0 < m) (hb : n + m ≤ 1048576) :
    Calls Tryd.prog 52 #[pv, .int .i64 (m : Int)] w fun e w' => GrewAny w pv E0 n m xs e w' := by
  have hxl := h.1
  rcases h.2 with ⟨rfl, rfl⟩ | ⟨g, cap, cur, rfl, hB, hh, hc, hmx, hs, ht⟩
  · obtain rfl : xs = [] := List.length_eq_zero_iff.1 (by omega)
    refine (grow_grow none 0 0 m [] w (Nat.le_refl _) (by omega) (by omega) rfl (fun _ => rfl) (fun a e => by cases e)).mono ?_
    rintro e w' ⟨G, zs, h1, h2, h3, rfl, rfl⟩
    refine ⟨w.heap.size, G, zs, rfl, h1, h2, by omega, rfl, hE, ?_, (Below.refl _ _).drew.alloc (Nat.le_refl _) _, .inr rfl⟩
    exact heap_alloc_new w.drew _
  · by_cases hr : n + m ≤ cap
    · refine (grow_room _ n cap m w hc (by unfold maxLen at hmx; omega) (by omega) hr).mono ?_
      rintro e w' ⟨rfl, rfl⟩
      exact ⟨g, cap, cur.toList, rfl, hr, hmx, by simp; omega, by rw [← ht]; simp, hB, by simpa using hh, Below.refl _ _, .inl rfl⟩
    · refine (grow_grow (some ⟨g, 0, none⟩) n cap m cur.toList w hc (by omega) (by omega) (by simp; omega) (fun e => by cases e) ?_).mono ?_
      · intro a e j v hj
        cases e
        rw [add_at, Nat.zero_add]
        simp only [World.cell?, hh]
        simpa using hj
      · rintro e w' ⟨G, zs, h1, h2, h3, rfl, rfl⟩
        refine ⟨w.heap.size, G, cur.toList ++ zs, rfl, h1, h2, by simp; omega, ?_, hE, heap_alloc_new w.drew _, (Below.refl _ _).drew.alloc (Nat.le_refl _) _, .inr rfl⟩
        rw [List.take_append_of_le_length (by simp; omega), ← ht]; simp

def _root_.Go.Frm.Sm.more (s : Sm) (run : List Int) : Sm := { s with pay := s.pay ++ run }
theorem setRow_blk {w : World} {b g : Nat} {cs : List Value} (h : Blk w b cs) (hg : b ≠ g) (C : Array Value) : Blk (w.setRow g C) b cs := h.of_block (setRow_other w g b C hg)
theorem tch_setRow {b g : Nat} {r : Option Nat} {x y : World} (h : Tch b r x y) (hg : r = some g ∨ x.heap.size ≤ g) (C : Array Value) : Tch b r x (y.setRow g C) :=
  ⟨h.os, h.tape, h.output, by simpa [World.setRow] using h.size, fun i hi hb hr => (setRow_other y g i C (by rintro rfl; rcases hg with e | e; exact hr e.symm; omega)).trans (h.block i hi hb hr)⟩

set_option maxHeartbeats 800000 in
set_option maxRecDepth 100000 in
theorem gather_none (w : World) (b : Nat) (s : Sm) (pv : Value) (E0 : Nat) (a : Option Addr) (cap : Nat) (h : Str w b s pv E0) (hp : s.pay = []) :
    Calls Tryd.prog 46 #[.pointer (some ⟨b, 0, none⟩), .slice a 0 cap] w fun r w' => r = .returned (.tuple #[]) ∧ Stp w w' b s pv pv E0 := by
  have hpv := h.nil_ hp
  subst hpv
  have c12 := h.c12
  have t12 := h.box.thaw 12
  have H1 := hide (h.put 12 (.slice none 0 0) s (by simp [cellsS, h.six]) rfl h.six)
  have HG := fun W => hide (grow_room none 0 0 0 W (by decide) (by decide) (by decide) (by decide))
  clear h
  go_enter Tryd.func46, Tryd.ntmps46
  go_wp2_with fail
  refine (HG _).out.mono ?_
  rintro r w1 ⟨rfl, rfl⟩
  go_upto_region 2 with fail
  go_wp2_with (first | (refine wpList_copy_nothing rfl _ _ 22 22 rfl 5 Tryd.underlying22 (by kernel_rfl) none a 0 0 0 cap rfl rfl rfl ?_))
  go_end0
  exact ⟨rfl, H1.out⟩

set_option maxHeartbeats 800000 in
set_option maxRecDepth 100000 in
theorem gather_some (w : World) (b : Nat) (s : Sm) (pv : Value) (E0 : Nat) (c off m cap : Nat) (run : List Int) (h : Str w b s pv E0) (hs : Seg w (some ⟨c, off, none⟩) m run) (hcb : c ≠ b) (hcr : some c ≠ pv.ownBlock) (hm : 0 < m) (hb : s.pay.length + m ≤ 1048576) :
    Calls Tryd.prog 46 #[.pointer (some ⟨b, 0, none⟩), .slice (some ⟨c, off, none⟩) m cap] w fun r w' => r = .returned (.tuple #[]) ∧ ∃ pv', Stp w w' b (s.more run) pv pv' E0 := by
  obtain ⟨n, hn⟩ : ∃ n, n = s.pay.length := ⟨_, rfl⟩
  have c12 := h.c12
  have hown := h.own
  rw [← hn] at hown hb
  obtain ⟨a0, cp0, hpv⟩ := own_shape hown
  subst hpv
  have HG := hide (grow_any _ E0 n m _ w hown (Nat.le_trans h.low (Nat.le_of_lt h.box.lt)) hm hb)
  have HN := hide hn
  have HS := hide hs
  have HH := hide h
  have hml : m ≤ maxLen := hs.2.1
  have hclt : Hid (c < w.heap.size) := hs.lt hm rfl
  unfold maxLen at hml
  clear hown hs h hn
  go_enter Tryd.func46, Tryd.ntmps46
  go_wp2_with fail
  refine HG.out.mono ?_
  rintro r w1 ⟨g, cp, cur, rfl, hcp, hcm, hcl, hct, hEg, hgc, hbel, hgo⟩
  have d12 : w1.cell? ⟨b, 12, none⟩ = some (.slice a0 n cp0) := (hbel.cell (p := ⟨b, 12, none⟩) (cell_lt c12)).trans c12
  have S1 := HH.out.on hbel
  have t12 := S1.box.thaw 12
  have hbg : b ≠ g := by
    rcases hgo with e | e
    · intro e2; exact HH.out.far (by rw [e, e2])
    · have := HH.out.box.lt; omega
  have hcg : c ≠ g := by
    rcases hgo with e | e
    · intro e2; exact hcr (by rw [e, e2])
    · have := hclt.out; omega
  have hgl : g < w1.heap.size := (Array.getElem?_eq_some_iff.1 hgc).1
  have hcp' : cp ≤ 9223372036854775807 := by unfold maxLen at hcm; omega
  have f1 : (n : Int) + (m : Int) ≤ (cp : Int) := by omega
  have f2 : (0 : Int) ≤ (n : Int) + (m : Int) := by omega
  have f3 : ((n : Int) + (m : Int)).toNat = n + m := by omega
  obtain ⟨W2, hW2⟩ : ∃ W2, W2 = w1.setCell ⟨b, 12, none⟩ (.slice (some ⟨g, 0, none⟩) (n + m) cp) := ⟨_, rfl⟩
  have hg2 : W2.heap[g]? = some (.cells cur.toArray 5 (0, 0)) := by rw [hW2]; exact (Below.heap_setCell _ _ _ _ (Ne.symm hbg)).trans hgc
  have hB2 : Blk W2 b (cellsS (s.more run) (.slice (some ⟨g, 0, none⟩) (n + m) cp)) := by
    have := S1.box.setAt 12 (.slice (some ⟨g, 0, none⟩) (n + m) cp)
    rw [hW2]
    have e : (cellsS s (.slice a0 n cp0)).set 12 (.slice (some ⟨g, 0, none⟩) (n + m) cp) = cellsS (s.more run) (.slice (some ⟨g, 0, none⟩) (n + m) cp) := by simp [cellsS, S1.six, Sm.more]
    rw [← e]; exact this
  have hT2 : Tch b (Value.slice a0 n cp0).ownBlock w W2 := by rw [hW2]; exact (Tch.ofBelow hbel).setB _
  have hc2 : ∀ j v, (run.map (Value.int .u8))[j]? = some v → W2.cell? ((⟨c, off, none⟩ : Addr).add j) = some v := by
    intro j v hj
    have hSeg := hT2.seg HS.out (fun x e _ => by cases e; exact ⟨hcb, hcr⟩)
    obtain ⟨b', off', e, hcell⟩ := hSeg.2.2 hm
    cases e
    rw [add_at]
    have hjl : j < run.length := by
      rcases Nat.lt_or_ge j run.length with q | q
      · exact q
      · rw [List.getElem?_eq_none (by simpa using q)] at hj; cases hj
    rw [hcell j (by rw [← HS.out.1]; exact hjl), ← hj]
    simp [List.getElem?_eq_getElem hjl]
  have hr1 : Hid (run.length = m) := HS.out.1
  have e12 : W2.cell? ⟨b, 12, none⟩ = some (.slice (some ⟨g, 0, none⟩) (n + m) cp) := hB2.cell 12 _ (by simp [cellsS, Sm.more, S1.six])
  have HW2 := hide hW2
  have HB2 := hide hB2
  have HT2 := hide hT2
  have HC := hide hc2
  have HG2 := hide hg2
  have HCL := hide hcl
  have HCT := hide hct
  have HEG := hide hEg
  have HCM := hide hcm
  have HBL := hide hbel
  have S1' := hide S1
  have HGO := hide hgo
  clear hcl hct hEg hcm hbel hgo S1 hB2 hT2 hc2 hg2 hgc hcr hcp hW2 hgl
  go_upto_region 2 with fail
  rw [show w1.setCell ⟨b, 12, none⟩ (.slice (some ⟨g, 0, none⟩) (n + m) cp) = W2 from HW2.out.symm]
  have hnc : ¬ cp = n := by omega
  have hn2 : n ≤ n + m := by omega
  obtain ⟨W3, hW3⟩ : ∃ W3, W3 = W2.setRow g (cur.toArray.toList.take n ++ run.map (Value.int .u8) ++ cur.toArray.toList.drop (n + (run.map (Value.int .u8)).length)).toArray := ⟨_, rfl⟩
  have hcopy : ∀ ty, (Builtin.copy_ #[22, 22] ty #[.slice (some ⟨g, n, none⟩) m (cp - n), .slice (some ⟨c, off, none⟩) m cap]).run Tryd.prog W2 = .ok (.int .i64 (m : Int)) W3 := fun ty => by
    have := run_copy_row (P := Tryd.prog) W2 22 22 ty 5 g n m (cp - n) ⟨c, off, none⟩ m cap cur.toArray 5 (run.map (Value.int .u8)) Tryd.underlying22 (by kernel_rfl) HG2.out (by simp [hr1.out]) HC.out (by simp [hr1.out, HCL.out]; omega) (by intro v hv; simp at hv; obtain ⟨z, _, rfl⟩ := hv; rfl)
    rw [this, hW3, List.length_map, hr1.out]; rfl
  have hsr : W3.heap[g]? = some (.cells (cur.take n ++ run.map (Value.int .u8) ++ cur.drop (n + m)).toArray 5 (0, 0)) := by
    rw [hW3, setRow_heap W2 g _ _ 5 (0, 0) HG2.out]
    simp [hr1.out]
  have hlen : (s.pay ++ run).length = n + m := by rw [List.length_append, hr1.out, ← HN.out]
  have R : Hid (Stp w W3 b (s.more run) (.slice a0 n cp0) (.slice (some ⟨g, 0, none⟩) (n + m) cp) E0) := by
    refine ⟨⟨by rw [hW3]; exact setRow_blk HB2.out hbg _, ⟨by simp [Sm.more], .inr ⟨g, cp, (cur.take n ++ run.map (Value.int .u8) ++ cur.drop (n + m)).toArray, by rw [show (s.more run).pay.length = n + m from hlen], HEG.out, hsr, by rw [show (s.more run).pay.length = n + m from hlen]; omega, HCM.out, by have := HCL.out; simp [hr1.out]; omega, ?_⟩⟩, ?_, S1'.out.six, S1'.out.low, ?_⟩, ?_, ?_⟩
    · rw [show (s.more run).pay.length = n + m from hlen, Nat.mul_one, List.take_append_of_le_length (by have := HCL.out; simp [hr1.out]; omega), List.take_of_length_le (by simp [hr1.out]; omega), HCT.out]
      simp [Sm.more]
    · intro e; cases e; exact hbg rfl
    · intro e; exfalso; have : (s.more run).pay.length = n + m := hlen; rw [e] at this; simp at this; omega
    · rw [hW3]; refine tch_setRow HT2.out ?_ _
      rcases HGO.out with e | e
      · exact .inl e
      · right; omega
    · rcases HGO.out with e | e
      · exact .inl e.symm
      · refine .inr fun k hk => ?_
        cases hk
        show w.heap.size ≤ g; omega
  clear hsr hlen hW3 HG2 HB2 HT2 HCL HCT HC HGO HEG HCM HBL S1'
  go_wp2
  go_end0
  exact ⟨rfl, _, R.out⟩

end Go.Proofs.YtiajkdjljilndaaDoor
