/- Texts of the proof, joined. -/
import Derived.Test.YtdokagebfeejbaaGreatDoorJ04
import Derived.Test.YtdokagebfeejbaaGreatDoorJ17
import Derived.Test.YtdokagebfeejbaaGreatDoorJ43
/- The contracts of the document's own Width and Entries; one more int onto a row of our own. -/
namespace Go.Proofs.YtdokagebfeejbaaGreatDoor
open Go.RowKit Go.Wire1

theorem pushI {B : Nat} {w wr w1 : World} {v v' : Value} {o : Obj} {pre : List Int} {z : Int} (hB : B ≤ wr.heap.size) (hown : wr.ownsRow B 3 1 v pre.length (pre.map (Value.int .i64))) (hbel : Below B w wr)
    (hown' : w1.ownsRow B 3 1 v' (pre.length + 1) (pre.map (Value.int .i64) ++ [.int .i64 z])) (hgrow : (wr.alloc o).grownBy w1 v.ownBlock) :
    w1.ownsRow B 3 1 v' (pre ++ [z]).length ((pre ++ [z]).map (Value.int .i64)) ∧ Below B w w1 :=
  ⟨by simpa using hown', (hbel.alloc hB o).grown hgrow (by simp; omega) (fun j hj => (hown.lt j hj).1)⟩

end Go.Proofs.YtdokagebfeejbaaGreatDoor
/- The contracts of the statements' helpers Ints (a new list) and roomy (a new list with three numbers more). -/
namespace Go.Proofs.YtdokagebfeejbaaGreatDoor
open Go.RowKit Go.Wire1

set_option maxHeartbeats 1000000 in
set_option maxRecDepth 100000 in
theorem ints_any (a : Option Addr) (n cap : Nat) (xs : List Int) (w : World) (ha : SegI w a n xs) (hlen : n * 8 ≤ 140737488355328) :
    Calls Tryz.prog 19 #[.slice a n cap] w fun e w' => ∃ v, e = .returned v ∧ w'.ownsRow w.heap.size 3 1 v xs.length (xs.map (Value.int .i64)) ∧ Below w.heap.size w w' := by
  obtain ⟨i0, hi, hz0, hz1, hz2⟩ := info_parts Tryz.info3
  have HA : Hid (SegI w a n xs) := ha
  have hxl : Hid (xs.length = n) := ha.1
  clear ha
  go_enter Tryz.func19, Tryz.ntmps19
  go_wp2
  go_loopw [3, 4] (fun v c wr => ∃ k : Nat, c = .int .i64 (k : Int) ∧ k ≤ n ∧ wr.ownsRow w.heap.size 3 1 v (xs.take k).length ((xs.take k).map (Value.int .i64)) ∧ Below w.heap.size w wr) (fun _ c _ => n - (intOf c).toNat)
  case atStart => exact ⟨0, rfl, Nat.zero_le _, World.ownsRow_nil _ _ _ _, Below.refl _ _⟩
  case round =>
    obtain ⟨k, rfl, hk, hown, hbel⟩ := hrel
    have hsz := hbel.size
    have htl : (xs.take k).length ≤ k := List.length_take_le _ _
    by_cases hlt : k < n
    · obtain ⟨ba, oa, rfl, hca⟩ := (HA.out.below hbel (Nat.le_refl _)).2.2.1 (by omega)
      have ca : wr.cell? ⟨ba, oa + k, none⟩ = some (.int .i64 (xs.getD k 0)) := hca k hlt
      have HT : Hid (xs.take (k + 1) = xs.take k ++ [xs.getD k 0]) := take_next (by have := hxl.out; omega)
      clear hca
      generalize xs.getD k 0 = z at *
      generalize xs.take k = pre at *
      go_wp2_with (first
        | (at_builtin; refine wpList_append_own _ rfl _ _ 28 rfl w.heap.size 3 i0 (.int .i64 0) 1 8 Tryz.underlying28 hi hz0 hz1 hz2 rfl (by decide) _ _ _ rfl (hown.alloc _) ⟨wr.heap.size, 0, none⟩ 1 1 [.int .i64 z] rfl rfl ?c1 ?c2 ?c3 ?c4 ?c5 ?_))
      case c1 =>
        intro j u hj
        match j, hj with
        | 0, hj => simp at hj; subst hj; simp [Addr.add]
      case c2 => intro u hu; simp at hu; subst hu; rfl
      case c3 => unfold maxLen; omega
      case c4 => omega
      case c5 => simp; omega
      intro v' w1 hown' hgrow _
      have R := pushI hsz hown hbel hown' hgrow
      clear hown' hgrow hown
      go_wp2
      go_roundw
      case rel => rw [← HT.out] at R; exact ⟨k + 1, by go_num, by omega, R.1, R.2⟩
      case measure => simp [intOf]; omega
    · have HT : Hid (xs.take k = xs) := List.take_of_length_le (by have := hxl.out; omega)
      rw [HT.out] at hown
      clear htl
      go_wp2
      go_ret
      exact ⟨_, rfl, hown, hbel⟩

theorem fit_append {l m : List Int} (h : Fit l) (k : Fit m) : Fit (l ++ m) := fun j => by
  by_cases hj : j < l.length
  · rw [List.getD, List.getElem?_append_left hj]; exact h j
  · rw [List.getD, List.getElem?_append_right (by omega)]; exact k _

def spare3 : List Int := [901, 902, 903]
end Go.Proofs.YtdokagebfeejbaaGreatDoor
/- The statements' twin and whole of messages. -/
namespace Go.Proofs.YtdokagebfeejbaaGreatDoor
open Go.RowKit Go.Wire1

theorem mtouch_own {q : Nat} : ∀ (vs : List Value) (o : Nat) (W X : World), Touch q X W → Touch q X (W.setCells q o vs)
  | [], _, _, _, h => h
  | v :: vs, o, _, X, h => mtouch_own vs (o + 1) _ X (h.setB v)
theorem mown_block {w w' : World} {B : Nat} {e : TypeId} {s : Nat} {v : Value} {n : Nat} {xs : List Value} (h : w.ownsRow B e s v n xs) (hb : ∀ b, v.ownBlock = some b → w'.heap[b]? = w.heap[b]?) : w'.ownsRow B e s v n xs := by
  refine ⟨h.1, ?_⟩
  rcases h.2 with h2 | ⟨g, cap, cur, rfl, hB, hh, r⟩
  · exact .inl h2
  · exact .inr ⟨g, cap, cur, rfl, hB, by rw [hb g rfl]; exact hh, r⟩
theorem own_lt {w : World} {B g N cap : Nat} {L : List Int} (h : MineI w B g N cap L) : g < w.heap.size := h.lt
theorem push1i {B : Nat} {w wr w1 : World} {v v' : Value} {o : Obj} {pre : List Int} {x : Int} (hB : B ≤ wr.heap.size) (hown : wr.ownsRow B 3 1 v pre.length (pre.map (Value.int .i64))) (hbel : Below B w wr)
    (hown' : w1.ownsRow B 3 1 v' (pre.length + 1) (pre.map (Value.int .i64) ++ [.int .i64 x])) (hgrow : (wr.alloc o).grownBy w1 v.ownBlock) :
    w1.ownsRow B 3 1 v' (pre ++ [x]).length ((pre ++ [x]).map (Value.int .i64)) ∧ Below B w w1 :=
  ⟨by simpa using hown', (hbel.alloc hB o).grown hgrow (by simp; omega) (fun j hj => (hown.lt j hj).1)⟩
set_option maxHeartbeats 4000000 in
set_option maxRecDepth 100000 in
/-- The same message; its Deps lie in new memory, three numbers behind them. -/
theorem twin5_any (m : Ms) (ua : Option Addr) (uk uc : Nat) (w : World) (hI : SegI w ua uk m.dl) (hlen : (uk + 3) * 8 ≤ 140737488355200) :
    Calls Tryz.prog 6 #[.agg (mgc m (.slice ua uk uc)).toArray] w fun e w' => ∃ g cp B, e = .returned (.agg (mgc m (.slice (some ⟨g, 0, none⟩) uk cp)).toArray) ∧ MineI w' B g (uk + 3) cp (m.dl ++ [11, 12, 13]) ∧ Below w.heap.size w w' := by
  obtain ⟨X0, hX0⟩ : ∃ X, X = w.alloc (.cells (mgc m (.slice ua uk uc)).toArray 30) := ⟨_, rfl⟩
  obtain ⟨X, hX⟩ : ∃ X, X = X0.alloc (.cells #[.int .i64 0, .int .i64 0, .int .i64 0, .int .i64 0, .int .i64 0, .int .i64 0, .int .i64 0, .int .i64 0, .bool false, .int .i64 0, .int .i64 0, .int .i64 0, .string ⟨#[]⟩, .string ⟨#[]⟩, .string ⟨#[]⟩, .string ⟨#[]⟩, .int .i64 0, .int .i64 0, .slice none 0 0] 30) := ⟨_, rfl⟩
  have s0 : X0.heap.size = w.heap.size + 1 := by rw [hX0]; simp
  have b0 : Below w.heap.size w X0 := by rw [hX0]; exact (Below.refl _ w).alloc (Nat.le_refl _) _
  have b1 : Below X0.heap.size X0 X := by rw [hX]; exact (Below.refl _ _).alloc (Nat.le_refl _) _
  have BX : Hid (Below w.heap.size w X) := b0.trans (b1.mono (by omega))
  have q0 : Blk X0 w.heap.size (mgc m (.slice ua uk uc)) := by rw [hX0]; exact blk_new w 30 (mgc m (.slice ua uk uc))
  have QM : Hid (Blk X w.heap.size (mgc m (.slice ua uk uc))) := q0.on b1
  have q1 : Blk X X0.heap.size [.int .i64 0, .int .i64 0, .int .i64 0, .int .i64 0, .int .i64 0, .int .i64 0, .int .i64 0, .int .i64 0, .bool false, .int .i64 0, .int .i64 0, .int .i64 0, .string ⟨#[]⟩, .string ⟨#[]⟩, .string ⟨#[]⟩, .string ⟨#[]⟩, .int .i64 0, .int .i64 0, .slice none 0 0] := by rw [hX]; exact blk_new X0 30 [.int .i64 0, .int .i64 0, .int .i64 0, .int .i64 0, .int .i64 0, .int .i64 0, .int .i64 0, .int .i64 0, .bool false, .int .i64 0, .int .i64 0, .int .i64 0, .string ⟨#[]⟩, .string ⟨#[]⟩, .string ⟨#[]⟩, .string ⟨#[]⟩, .int .i64 0, .int .i64 0, .slice none 0 0]
  rw [s0] at q1
  have QR : Hid (Blk X (w.heap.size + 1) [.int .i64 0, .int .i64 0, .int .i64 0, .int .i64 0, .int .i64 0, .int .i64 0, .int .i64 0, .int .i64 0, .bool false, .int .i64 0, .int .i64 0, .int .i64 0, .string ⟨#[]⟩, .string ⟨#[]⟩, .string ⟨#[]⟩, .string ⟨#[]⟩, .int .i64 0, .int .i64 0, .slice none 0 0]) := q1
  have HXs : Hid (w.heap.size + 1 < X.heap.size) := q1.lt
  have eX : Hid ((w.alloc (.cells (mgc m (.slice ua uk uc)).toArray 30)).alloc (.cells #[.int .i64 0, .int .i64 0, .int .i64 0, .int .i64 0, .int .i64 0, .int .i64 0, .int .i64 0, .int .i64 0, .bool false, .int .i64 0, .int .i64 0, .int .i64 0, .string ⟨#[]⟩, .string ⟨#[]⟩, .string ⟨#[]⟩, .string ⟨#[]⟩, .int .i64 0, .int .i64 0, .slice none 0 0] 30) = X) := by rw [hX, hX0]; exact rfl
  clear hX hX0 s0 b0 b1 q0 q1
  obtain ⟨i0, hi, hz0, hz1, hz2⟩ := info_parts Tryz.info3
  have hl0 : m.dl.length ≤ 17592186044400 := by have := hI.1; omega
  have HU := hide hI.1
  have HI := hide hI
  obtain ⟨L0, hL0⟩ : ∃ L0, Hid (m.dl = L0) := ⟨_, rfl⟩
  have c18 : X.cell? ⟨w.heap.size, 18, none⟩ = some (.slice ua uk uc) := QM.out.cell 18 _ rfl
  rw [hL0.out] at hl0
  have SI : Hid (SegI X ua uk L0) := by rw [← hL0.out]; exact HI.out.below BX.out (Nat.le_refl _)
  obtain ⟨A1, hA1⟩ : ∃ A : List Int, Hid (L0 ++ [11] = A) := ⟨L0 ++ [11], rfl⟩
  obtain ⟨A2, hA2⟩ : ∃ A : List Int, Hid (A1 ++ [12] = A) := ⟨A1 ++ [12], rfl⟩
  obtain ⟨A3, hA3⟩ : ∃ A : List Int, Hid (A2 ++ [13] = A) := ⟨A2 ++ [13], rfl⟩
  have n1 : Hid (A1.length = L0.length + 1) := by show _ = _; rw [← hA1.out, List.length_append]; rfl
  have n2 : Hid (A2.length = A1.length + 1) := by show _ = _; rw [← hA2.out, List.length_append]; rfl
  have n3 : Hid (A3.length = A2.length + 1) := by show _ = _; rw [← hA3.out, List.length_append]; rfl
  have l1 : A1.length ≤ 17592186044401 := by have := n1.out; omega
  have l2 : A2.length ≤ 17592186044402 := by have := n2.out; omega
  have N0 : Hid (L0.length = uk) := by show _ = _; rw [← hL0.out]; exact HU.out
  clear hI hlen
  go_enter Tryz.func6, Tryz.ntmps6
  go_upto_region 1 with fail
  rw [eX.out]
  clear eX
  go_wp2_with fail
  refine (ints_any ua uk uc L0 _ SI.out (by have := N0.out; omega)).mono ?_
  rintro e w1 ⟨v, rfl, hown, hb1⟩
  have hsz := hb1.size
  go_wp2_with (first
    | (at_builtin; refine wpList_append_own _ rfl _ _ 28 rfl X.heap.size 3 i0 (.int .i64 0) 1 8 Tryz.underlying28 hi hz0 hz1 hz2 rfl (by decide) _ _ _ rfl (hown.alloc _) ⟨w1.heap.size, 0, none⟩ 1 1 [.int .i64 11] rfl rfl ?c11 ?c21 ?c31 ?c41 ?c51 ?_))
  case c11 =>
    intro j u hj
    rw [add_at, Nat.zero_add]
    exact (cell_new w1 [.int .i64 11] 3 j).trans hj
  case c21 => intro u hu; simp at hu; subst hu; rfl
  case c31 => unfold maxLen; omega
  case c41 => omega
  case c51 => simp; omega
  intro v2 w2 hown' hgrow _
  have R1 := push1i hsz hown hb1 hown' hgrow
  rw [hA1.out] at R1
  have o2 := R1.1
  have b2 := R1.2
  clear hown' hgrow R1 hown hb1 hsz
  have hsz := b2.size
  go_wp2_with (first
    | (at_builtin; refine wpList_append_own _ rfl _ _ 28 rfl X.heap.size 3 i0 (.int .i64 0) 1 8 Tryz.underlying28 hi hz0 hz1 hz2 rfl (by decide) _ _ _ rfl (o2.alloc _) ⟨w2.heap.size, 0, none⟩ 1 1 [.int .i64 12] rfl rfl ?c12 ?c22 ?c32 ?c42 ?c52 ?_))
  case c12 =>
    intro j u hj
    rw [add_at, Nat.zero_add]
    exact (cell_new w2 [.int .i64 12] 3 j).trans hj
  case c22 => intro u hu; simp at hu; subst hu; rfl
  case c32 => unfold maxLen; omega
  case c42 => omega
  case c52 => simp; omega
  intro v3 w3 hown' hgrow _
  have R2 := push1i hsz o2 b2 hown' hgrow
  rw [hA2.out] at R2
  have o3 := R2.1
  have b3 := R2.2
  clear hown' hgrow R2 o2 b2 hsz
  have hsz := b3.size
  go_wp2_with (first
    | (at_builtin; refine wpList_append_own _ rfl _ _ 28 rfl X.heap.size 3 i0 (.int .i64 0) 1 8 Tryz.underlying28 hi hz0 hz1 hz2 rfl (by decide) _ _ _ rfl (o3.alloc _) ⟨w3.heap.size, 0, none⟩ 1 1 [.int .i64 13] rfl rfl ?c13 ?c23 ?c33 ?c43 ?c53 ?_))
  case c13 =>
    intro j u hj
    rw [add_at, Nat.zero_add]
    exact (cell_new w3 [.int .i64 13] 3 j).trans hj
  case c23 => intro u hu; simp at hu; subst hu; rfl
  case c33 => unfold maxLen; omega
  case c43 => omega
  case c53 => simp; omega
  intro v4 w4 hown' hgrow _
  have R3 := push1i hsz o3 b3 hown' hgrow
  rw [hA3.out] at R3
  have o4 := R3.1
  have b4 := R3.2
  clear hown' hgrow R3 o3 b3 hsz
  have hsz := b4.size
  have NA : Hid (A3.length = uk + 3) := by show _ = _; have := n1.out; have := n2.out; have := n3.out; have := N0.out; omega
  obtain ⟨g, cp, hv, hM⟩ := mineI_of o4 (by have := NA.out; omega)
  rw [NA.out] at hv hM
  subst hv
  have hgX : X.heap.size ≤ g := hM.2.2.2.2
  have hgc : uk + 3 ≤ cp := hM.2.2.1
  have hgm : cp ≤ 9223372036854775807 := by have := hM.2.2.2.1; unfold maxLen at this; omega
  have HM := hide hM
  have B4 : Hid (Below X.heap.size X w4) := b4
  have Q4 : Hid (Blk w4 w.heap.size (mgc m (.slice ua uk uc))) := QM.out.on B4.out
  have R4 : Hid (Blk w4 (w.heap.size + 1) [.int .i64 0, .int .i64 0, .int .i64 0, .int .i64 0, .int .i64 0, .int .i64 0, .int .i64 0, .int .i64 0, .bool false, .int .i64 0, .int .i64 0, .int .i64 0, .string ⟨#[]⟩, .string ⟨#[]⟩, .string ⟨#[]⟩, .string ⟨#[]⟩, .int .i64 0, .int .i64 0, .slice none 0 0]) := QR.out.on B4.out
  have c18' : w4.cell? ⟨w.heap.size, 18, none⟩ = some (.slice ua uk uc) := Q4.out.cell 18 _ rfl
  have f18 : w4.frozen? ⟨w.heap.size, 18, none⟩ = false := Q4.out.thaw 18
  have T5 : Hid (Touch w.heap.size w4 (w4.setCell ⟨w.heap.size, 18, none⟩ (.slice (some ⟨g, 0, none⟩) uk cp))) := (Touch.refl _ w4).setB _
  have Q5 : Hid (Blk (w4.setCell ⟨w.heap.size, 18, none⟩ (.slice (some ⟨g, 0, none⟩) uk cp)) w.heap.size (mgc m (.slice (some ⟨g, 0, none⟩) uk cp))) := Q4.out.setAt 18 (.slice (some ⟨g, 0, none⟩) uk cp)
  obtain ⟨w5, hw5⟩ : ∃ w5, w4.setCell ⟨w.heap.size, 18, none⟩ (.slice (some ⟨g, 0, none⟩) uk cp) = w5 := ⟨_, rfl⟩
  rw [hw5] at T5 Q5
  clear o4 b4 hM hsz c18 hi hz0 hz1 hz2 l1 l2 QM QR Q4
  go_upto_region 6 with fail
  clear hw5 c18' f18
  have HX1 := HXs.out
  have R5 : Hid (Blk w5 (w.heap.size + 1) [.int .i64 0, .int .i64 0, .int .i64 0, .int .i64 0, .int .i64 0, .int .i64 0, .int .i64 0, .int .i64 0, .bool false, .int .i64 0, .int .i64 0, .int .i64 0, .string ⟨#[]⟩, .string ⟨#[]⟩, .string ⟨#[]⟩, .string ⟨#[]⟩, .int .i64 0, .int .i64 0, .slice none 0 0]) := R4.out.of_block (T5.out.block _ R4.out.lt (by omega))
  have TR : Hid (w5.there (w.heap.size + 1) 0 19) := R5.out.there
  have T6 : Touch (w.heap.size + 1) w5 (w5.setCells (w.heap.size + 1) 0 (mgc m (.slice (some ⟨g, 0, none⟩) uk cp))) := mtouch_own _ _ _ _ (Touch.refl _ w5)
  have E6 : (w5.setCells (w.heap.size + 1) 0 (mgc m (.slice (some ⟨g, 0, none⟩) uk cp))).heap[g]? = w4.heap[g]? := (T6.block g (by have := (own_lt HM.out); have := T5.out.size; omega) (by omega)).trans (T5.out.block g (own_lt HM.out) (by omega))
  have FM : Hid (MineI (w5.setCells (w.heap.size + 1) 0 (mgc m (.slice (some ⟨g, 0, none⟩) uk cp))) X.heap.size g (uk + 3) cp A3) := ⟨mown_block HM.out.1 (fun b hb => by cases hb; exact E6), HM.out.2⟩
  have FB : Hid (Below w.heap.size w (w5.setCells (w.heap.size + 1) 0 (mgc m (.slice (some ⟨g, 0, none⟩) uk cp)))) := T6.below (by omega) (T5.out.below (Nat.le_refl _) (BX.out.trans (B4.out.mono BX.out.size)))
  have RA : Hid ((w5.setCells (w.heap.size + 1) 0 (mgc m (.slice (some ⟨g, 0, none⟩) uk cp))).rangeAt (w.heap.size + 1) 0 (mgc m (.slice (some ⟨g, 0, none⟩) uk cp))) := (blk_cells (vs := (mgc m (.slice (some ⟨g, 0, none⟩) uk cp))) R5.out rfl).range
  have EA : Hid (m.dl ++ [11, 12, 13] = A3) := by show _ = _; rw [← hA3.out, ← hA2.out, ← hA1.out, hL0.out]; simp
  clear T6 E6
  go_wp2_with (first | (refine wpList_load_mid rfl 30 _ rfl w.heap.size 0 rfl (mgc m (.slice (some ⟨g, 0, none⟩) uk cp)) _ Q5.out.range Tryz.underlying30 rfl (by kernel_rfl) ?_) | (refine wpList_store_mid rfl 30 _ _ rfl (w.heap.size + 1) 0 (mgc m (.slice (some ⟨g, 0, none⟩) uk cp)).toArray rfl rfl TR.out (by kernel_rfl) (by kernel_rfl) ?_))
  refine bodyPost_ret (results_cell_mid Tryz.results6 _ _ (w.heap.size + 1) (mgc m (.slice (some ⟨g, 0, none⟩) uk cp)) _ rfl RA.out Tryz.underlying30 rfl (by kernel_rfl)) rfl ?_
  exact ⟨g, cp, X.heap.size, rfl, by rw [EA.out]; exact FM.out, FB.out⟩
set_option maxHeartbeats 4000000 in
set_option maxRecDepth 100000 in
theorem whole5_any (m : Ms) (g uk cp : Nat) (w : World) (h1 : uk + 3 ≤ cp) (h2 : cp ≤ 9223372036854775807) :
    Calls Tryz.prog 11 #[.agg (mgc m (.slice (some ⟨g, 0, none⟩) uk cp)).toArray] w fun e w' => e = .returned (.slice (some ⟨g, 0, none⟩) (uk + 3) cp) ∧ Below w.heap.size w w' := by
  obtain ⟨X, hX⟩ : ∃ X, X = w.alloc (.cells (mgc m (.slice (some ⟨g, 0, none⟩) uk cp)).toArray 30) := ⟨_, rfl⟩
  have M0 : Hid (Blk X w.heap.size (mgc m (.slice (some ⟨g, 0, none⟩) uk cp))) := by rw [hX]; exact blk_new w 30 (mgc m (.slice (some ⟨g, 0, none⟩) uk cp))
  have B0 : Hid (Below w.heap.size w X) := by rw [hX]; exact (Below.refl _ w).alloc (Nat.le_refl _) _
  have c18 : X.cell? ⟨w.heap.size, 18, none⟩ = some (.slice (some ⟨g, 0, none⟩) uk cp) := M0.out.cell 18 _ rfl
  go_enter Tryz.func11, Tryz.ntmps11
  go_upto_region 1 with fail
  rw [← hX]
  clear hX
  go_wp2
  go_ret
  exact ⟨rfl, B0.out⟩
end Go.Proofs.YtdokagebfeejbaaGreatDoor
/- How many bytes a message's Deps reach over. -/
namespace Go.Proofs.YtdokagebfeejbaaGreatDoor
open Go.ChangeShapes Go.WideShapes Go.ChangeAt Go.RowKit Go.Wire1

set_option maxRecDepth 100000 in
theorem mdat_msg {H : Type} {enc : TypeId × Value → H} {W : World} {p : List MemPlace} {m : Ms} {ua : Option Addr} {uk uc : Nat} {dI dB dV dd : DataW H}
    (h : DataW.Trod enc Tryz.prog W 0 (fun _ => true) true 30 (.agg (mgc m (.slice ua uk uc)).toArray) (.agg [.lit (.int .i64 m.kind), dI, dB, dV, .lit (.int .i64 m.st), .lit (.bool m.sm), cmdD m.c, .lit (.int .i64 m.sq), dd]) p) :
    (dd = .nil ∧ uk = 0 ∧ uc = 0) ∨ ∃ elems spare, dd = .slice elems spare ∧ elems.length = uk ∧ elems.length + spare.length = uc := by
  obtain ⟨fuel, hf⟩ := h
  obtain ⟨xs, k, _, hx, _, hlen, hf⟩ := DataW.trod_struct Tryz.underlying30 hf
  match xs, hlen with
  | [y0, y1, y2, y3, y4, y5, y6, y7, y8], _ =>
    have t8 : DataW.trod enc Tryz.prog W 0 (fun _ => true) true k 28 (([.int .i64 m.kind, .int .i64 m.row, .int .i64 m.num, .int .i64 m.x, .int .i64 m.y, .int .i64 m.p, .int .i64 m.q, .int .i64 m.st, .bool m.sm, .int .i64 m.c.kind, .int .i64 m.c.client, .int .i64 m.c.req, .string m.c.key, .string m.c.key2, .string m.c.val, .string m.c.old, .int .i64 m.c.n, .int .i64 m.sq, .slice ua uk uc].drop 18).take (Tryz.prog.cellsOf 28)) = some y8 := hf 8 _ rfl
    rw [rcellsS] at t8
    replace t8 : DataW.trod enc Tryz.prog W 0 (fun _ => true) true k 28 [.slice ua uk uc] = some y8 := t8
    obtain ⟨l, hseg, hcap, hd⟩ := vopen_ints t8
    have e : dd = y8.1 := by
      simp only [Prod.mk.injEq] at hx
      have := hx.1
      simp at this
      exact this.2.2.2.2.2.2.2.2
    rw [e]; exact hd
theorem mdep_len {H : Type} {ts : List TypeId} {ds : List (DataW H)} (h : (DataW.weightsEach Tryz.prog ts ds).all (· ≤ reachBytes) = true) {j : Nat} {m : Ms} {dI dB dV dd : DataW H} {uk uc : Nat} (ht : ts[j]? = some 30)
    (hd : ds[j]? = some (.agg [.lit (.int .i64 m.kind), dI, dB, dV, .lit (.int .i64 m.st), .lit (.bool m.sm), cmdD m.c, .lit (.int .i64 m.sq), dd])) (hdat : (dd = .nil ∧ uk = 0 ∧ uc = 0) ∨ ∃ elems spare, dd = .slice elems spare ∧ elems.length = uk ∧ elems.length + spare.length = uc) : uc * 8 ≤ 140737488351232 := by
  rcases hdat with ⟨_, _, h0⟩ | ⟨elems, spare, rfl, _, hc⟩
  · omega
  · have h1 : (elems.length + spare.length) * Tryz.prog.bytesOf 3 ∈ DataW.weights (H := H) Tryz.prog 30 (.agg [.lit (.int .i64 m.kind), dI, dB, dV, .lit (.int .i64 m.st), .lit (.bool m.sm), cmdD m.c, .lit (.int .i64 m.sq), .slice elems spare]) := by
      simp [DataW.weights, Tryz.underlying30, Tryz.underlying28, DataW.weightsEach]
    have h2 : (elems.length + spare.length) * Tryz.prog.bytesOf 3 ≤ reachBytes := of_decide_eq_true (List.all_eq_true.1 h _ (DataW.weights_mem_each ht hd _ h1))
    rw [vbytes3, hc] at h2
    simp only [reachBytes] at h2
    exact h2
end Go.Proofs.YtdokagebfeejbaaGreatDoor
