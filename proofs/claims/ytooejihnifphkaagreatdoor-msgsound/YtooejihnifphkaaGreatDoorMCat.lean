/- The contracts of slices.Grow (from nothing) and of slices.Concat, on bytes. -/
import Derived.Test.YtooejihnifphkaaGreatDoorMAttrB
import Derived.Lib.AppendZerosOnto
import Derived.Lib.SliceRun
namespace Go.Proofs.YtooejihnifphkaaGreatDoor
open Go.RowKit Go.Wire1

set_option maxHeartbeats 800000 in
set_option maxRecDepth 100000 in
theorem grow_room (base : Option Addr) (l c n : Nat) (w : World) (hlc : l ≤ c) (hc63 : c ≤ 9223372036854775807) (hn63 : n ≤ 9223372036854775807) (hroom : l + n ≤ c) :
    Calls Tryz.prog 147 #[.slice base l c, .int .i64 (n : Int)] w fun e w' => e = .returned (.slice base l c) ∧ w' = w := by
  have h1 : ¬ ((n : Int) < 0) := by omega
  have h2 : wrap64 ((c : Int) - (l : Int)) = (c : Int) - (l : Int) := by unfold wrap64; omega
  have h3 : wrap64 ((n : Int) - ((c : Int) - (l : Int))) = (n : Int) - ((c : Int) - (l : Int)) := by unfold wrap64; omega
  have h4 : ¬ ((n : Int) - ((c : Int) - (l : Int)) > 0) := by omega
  go_enter Tryz.func147, Tryz.ntmps147
  go_wp2
  go_ret
  exact ⟨rfl, rfl⟩

/-- What Grow leaves where there was no room. -/
def Grew (w : World) (l n c : Nat) (cs : List Value) (e : Ending) (w' : World) : Prop := ∃ (G : Nat) (zs : List Value), l + n ≤ G ∧ G ≤ maxLen ∧ zs.length = G - c ∧ e = .returned (.slice (some ⟨w.heap.size, 0, none⟩) l G) ∧ w' = w.drew.alloc (.cells (cs ++ zs).toArray 5)

set_option maxHeartbeats 800000 in
set_option maxRecDepth 100000 in
theorem grow_grow (base : Option Addr) (l c n : Nat) (cs : List Value) (w : World) (hlc : l ≤ c) (hroom : c < l + n) (hbig : l + n ≤ 140737488355328)
    (hcl : cs.length = c) (hnil : base = none → c = 0) (hcs : ∀ a, base = some a → ∀ j v, cs[j]? = some v → w.cell? (a.add j) = some v) :
    Calls Tryz.prog 147 #[.slice base l c, .int .i64 (n : Int)] w fun e w' => Grew w l n c cs e w' := by
  obtain ⟨i0, hi0, hz0, hz1, hz2⟩ := info_parts Tryz.info5
  have h1 : ¬ ((n : Int) < 0) := by omega
  have h2 : wrap64 ((c : Int) - (l : Int)) = (c : Int) - (l : Int) := by unfold wrap64; omega
  have h3 : wrap64 ((n : Int) - ((c : Int) - (l : Int))) = (n : Int) - ((c : Int) - (l : Int)) := by unfold wrap64; omega
  have h4 : (n : Int) - ((c : Int) - (l : Int)) > 0 := by omega
  have hck : c + (l + n - c) = l + n := by omega
  have hold : (Builtin.firstCells i0.size c (.slice base c c)).run Tryz.prog w.drew = .ok cs.toArray w.drew := by
    cases base with
    | none =>
      have h0 := hnil rfl
      subst h0
      have hc0 : cs = [] := List.length_eq_zero_iff.1 hcl
      rw [hc0]
      exact run_firstCells_none w.drew i0.size 0 0 0
    | some a => exact run_firstCells_some w.drew i0.size c a c c cs (by rw [hcl, hz1]; omega) (fun j v hj => hcs a rfl j v hj)
  obtain ⟨G, hG⟩ : ∃ G, G = grownCap w (l + n) c 5 := ⟨_, rfl⟩
  have hGn : l + n ≤ G := by rw [hG]; exact grownCap_ge w _ _ _
  have hGm : G ≤ maxLen := by rw [hG]; exact grownCap_le_maxLen w (l + n) c 5 (by unfold maxLen; omega)
  obtain ⟨zs, hzs⟩ : ∃ zs : List Value, zs = (Builtin.zeroCells (Value.cells (.int .u8 0)) (l + n - c)).toList ++ (Builtin.zeroCells (Value.cells (.int .u8 0)) (G - (l + n))).toList := ⟨_, rfl⟩
  have hzl : zs.length = G - c := by rw [hzs]; simp [Builtin.zeroCells, Value.cells]; omega
  have hrz : ∀ ty, (Builtin.append_ #[34, 3] ty #[.slice base c c, .int .i64 ((n : Int) - ((c : Int) - (l : Int)))]).run Tryz.prog w =
      .ok (.slice (some ⟨w.heap.size, 0, none⟩) (l + n) G) (w.drew.alloc (.cells (cs ++ zs).toArray 5)) := fun ty => by
    have h := Lib.run_append_grow_zeros w 34 3 ty 5 i0 (.int .u8 0) .i64 .i64 Tryz.underlying34 Tryz.underlying3 hi0 hz0 base c c cs hold (l + n - c) (by omega) (by omega) (by omega) (by omega)
      (by rw [hz2]; omega) (by rw [hck]; exact growslice_fits hroom (by rw [hz2]; omega))
    rw [hck, ← hG] at h
    rw [show (n : Int) - ((c : Int) - (l : Int)) = ((l + n - c : Nat) : Int) by omega, h, hzs]
    congr 3
    apply Array.ext'
    simp
  have hG63 : G ≤ 9223372036854775807 := by unfold maxLen at hGm; omega
  have HE : Hid (Grew w l n c cs (.returned (.slice (some ⟨w.heap.size, 0, none⟩) l G)) (w.drew.alloc (.cells (cs ++ zs).toArray 5))) := ⟨G, zs, hGn, hGm, hzl, rfl, rfl⟩
  clear hold hck hG hcs hcl hGm hzl hzs hi0 hz0 hz1 hz2
  go_enter Tryz.func147, Tryz.ntmps147
  cases base with
  | none =>
    have h0 := hnil rfl
    subst h0
    obtain rfl : l = 0 := by omega
    go_wp2_with (at_builtin; refine Lib.wpList_append_run _ rfl _ _ _ _ rfl _ _ rfl rfl _ _ (hrz _) ?_)
    all_goals go_ret
    all_goals exact HE.out
  | some a =>
    obtain ⟨ab, ao, asp⟩ := a
    go_wp2_with (at_builtin; refine Lib.wpList_append_run _ rfl _ _ _ _ rfl _ _ rfl rfl _ _ (hrz _) ?_)
    all_goals go_ret
    all_goals exact HE.out

theorem grow_nil (n : Nat) (w : World) (hn : n ≤ 1000000) :
    Calls Tryz.prog 147 #[.slice none 0 0, .int .i64 (n : Int)] w fun e w' => ∃ v, e = .returned v ∧ w'.ownsRow w.heap.size 5 1 v 0 [] ∧ Below w.heap.size w w' := by
  by_cases h0 : n = 0
  · subst h0
    refine (grow_room none 0 0 0 w (by decide) (by decide) (by decide) (by decide)).mono ?_
    rintro e w' ⟨rfl, rfl⟩
    exact ⟨_, rfl, World.ownsRow_nil _ _ _ _, Below.refl _ _⟩
  · refine (grow_grow none 0 0 n [] w (Nat.le_refl _) (by omega) (by omega) rfl (fun _ => rfl) (fun a e => by cases e)).mono ?_
    rintro e w' ⟨G, zs, h1, h2, h3, rfl, rfl⟩
    refine ⟨_, rfl, ⟨rfl, .inr ⟨w.heap.size, G, zs.toArray, rfl, Nat.le_refl _, heap_alloc_new w.drew _, Nat.zero_le _, h2, by simp; omega, rfl⟩⟩, (Below.refl _ _).drew.alloc (Nat.le_refl _) _⟩
/-- Lists of bytes of our own in a row. -/
def Srcs (w : World) (g : Nat) (us : List Value) (Ls : List (List Int)) : Prop := us.length = Ls.length ∧ ∀ i, i < Ls.length → w.cell? ⟨g, i, none⟩ = some (us.getD i undef) ∧ (∃ C, w.ownsRow C 5 1 (us.getD i undef) (Ls.getD i []).length ((Ls.getD i []).map (Value.int .u8))) ∧ 0 < (Ls.getD i []).length
theorem cat_snoc {Ls : List (List Int)} {i : Nat} (h : i < Ls.length) : (Ls.take (i + 1)).flatten = (Ls.take i).flatten ++ Ls.getD i [] := by
  rw [List.take_succ_eq_append_getElem h, List.flatten_append]
  simp [List.getD, List.getElem?_eq_getElem h]
theorem cat_le (Ls : List (List Int)) (i : Nat) : (Ls.take i).flatten.length ≤ Ls.flatten.length := by
  have : Ls.flatten = (Ls.take i).flatten ++ (Ls.drop i).flatten := by rw [← List.flatten_append, List.take_append_drop]
  rw [this, List.length_append]; omega
set_option maxHeartbeats 4000000 in
set_option maxRecDepth 100000 in
theorem concat_any (g : Nat) (us : List Value) (Ls : List (List Int)) (k : Nat) (hk : Ls.length = k) (hk9 : k ≤ 9) (w : World) (h : Srcs w g us Ls) (ht : Ls.flatten.length ≤ 1000000) :
    Calls Tryz.prog 142 #[.slice (some ⟨g, 0, none⟩) k k] w fun r w' => Bts w Ls.flatten r w' := by
  have HH := hide h
  have HK := hide hk
  have HT := hide ht
  clear h hk ht
  unfold Bts
  go_enter Tryz.func142, Tryz.ntmps142
  go_wp2
  go_loopw [3, 11] (fun sv iv wr => ∃ (i T : Nat), sv = .int .i64 (T : Int) ∧ iv = .int .i64 (i : Int) ∧ i ≤ k ∧ Hid (T = (Ls.take i).flatten.length) ∧ T ≤ 1000000 ∧ w = wr) (fun _ iv _ => k - (intOf iv).toNat)
  case atStart => exact ⟨0, 0, rfl, rfl, Nat.zero_le _, rfl, Nat.zero_le _, rfl⟩
  case round =>
    obtain ⟨i, T, rfl, rfl, hi, hT, hTm, rfl⟩ := hrel
    by_cases hlt : i < k
    · have hil : i < Ls.length := by rw [HK.out]; exact hlt
      obtain ⟨hc, ⟨C, ho⟩, hp⟩ := HH.out.2 i hil
      obtain ⟨ua, ucap, hu⟩ := own_shape ho
      rw [hu] at hc
      have hsn := congrArg List.length (cat_snoc hil)
      have hle := cat_le Ls (i + 1)
      rw [List.length_append] at hsn
      generalize (Ls.getD i []).length = m at *
      have HT2 : Hid (T + m = (Ls.take (i + 1)).flatten.length) := by show _ = _; rw [hsn, ← hT.out]
      have hTm2 : T + m ≤ 1000000 := by have := HT.out; have := HT2.out; omega
      clear hsn hle ho hp hu hil hT
      go_wp2
      go_roundw
      case rel => exact ⟨i + 1, T + m, by go_num, by go_num, by omega, HT2, hTm2, by first | rfl | trivial⟩
      case measure => simp [intOf]; omega
    · obtain rfl : i = k := by omega
      clear hT hlt hi
      go_wp2_with fail
      refine (grow_nil T w hTm).mono ?_
      rintro e w1 ⟨v1, rfl, o1, b1⟩
      have O1 := hide o1
      have B1 := hide b1
      clear o1 b1
      go_wp2
      go_loopw [6, 27] (fun av iv wr => ∃ (j : Nat), iv = .int .i64 (j : Int) ∧ j ≤ i ∧ Hid (wr.ownsRow w.heap.size 5 1 av (Ls.take j).flatten.length ((Ls.take j).flatten.map (Value.int .u8))) ∧ Hid (Below w.heap.size w wr)) (fun _ iv _ => i - (intOf iv).toNat)
      case atStart => exact ⟨0, rfl, Nat.zero_le _, O1, B1⟩
      case round =>
        clear O1 B1
        obtain ⟨j, rfl, hj, OJ, BJ⟩ := hrel
        by_cases hlt : j < i
        · have hil : j < Ls.length := by rw [HK.out]; exact hlt
          obtain ⟨hc, ⟨C, ho⟩, hp⟩ := HH.out.2 j hil
          have hcell : wr.cell? ⟨g, j, none⟩ = some (us.getD j undef) := by rw [BJ.out.cell (p := ⟨g, j, none⟩) (cell_lt hc)]; exact hc
          have OS := hide (own_below ho BJ.out (Nat.le_refl _))
          have hsn := cat_snoc hil
          have hle := cat_le Ls (j + 1)
          obtain ⟨EE, hEE⟩ : ∃ EE, Hid ((Ls.take j).flatten ++ Ls.getD j [] = EE) := ⟨_, rfl⟩
          have HEJ : Hid ((Ls.take (j + 1)).flatten = EE) := by rw [← hEE.out]; exact hsn
          rw [hsn, List.length_append] at hle
          have hlen : (Ls.take j).flatten.length + (Ls.getD j []).length ≤ 1000000 := by have := HT.out; omega
          obtain ⟨ua, ucap, hu⟩ := own_shape ho
          rw [hu] at hcell OS
          have hsz : w.heap.size ≤ wr.heap.size := BJ.out.size
          clear hsn hle ho hc hu hil
          generalize (Ls.take j).flatten = LJ at *
          generalize Ls.getD j [] = LX at *
          obtain ⟨av, hav⟩ : ∃ av, Hid (u6 = av) := ⟨_, rfl⟩
          go_wp2_with (first | (at_builtin; refine wpList_join rfl _ _ rfl w.heap.size C u6 (.slice ua LX.length ucap) LJ LX EE hEE rfl rfl OJ.out OS.out hp hlen hsz ?_))
          intro v' w3 ho hg
          have RR : Hid (w3.ownsRow w.heap.size 5 1 v' (Ls.take (j + 1)).flatten.length ((Ls.take (j + 1)).flatten.map (Value.int .u8)) ∧ Below w.heap.size w w3) := by
            rw [HEJ.out]
            exact ⟨ho, BJ.out.grown hg hsz (fun j hj => (OJ.out.lt j hj).1)⟩
          clear ho hg
          go_wp2
          go_roundw
          case rel => exact ⟨j + 1, by go_num, by omega, RR.out.1, RR.out.2⟩
          case measure => simp [intOf]; omega
        · obtain rfl : j = i := by omega
          have htk : Ls.take j = Ls := List.take_of_length_le (Nat.le_of_eq HK.out)
          rw [htk] at OJ
          go_wp2
          go_ret
          exact ⟨_, rfl, OJ.out, BJ.out⟩
end Go.Proofs.YtooejihnifphkaaGreatDoor
