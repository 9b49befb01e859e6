/- Texts of the proof, joined. -/
import Derived.Test.YtnogdjpbnhnmaaaGreatDoorJ02
import Derived.Test.YtnogdjpbnhnmaaaGreatDoorJ12
import Derived.Test.YtnogdjpbnhnmaaaGreatDoorJ14
import Derived.Test.YtnogdjpbnhnmaaaGreatDoorJ17
import Derived.Test.YtnogdjpbnhnmaaaGreatDoorJ26
import Derived.Lib.OthersKept
/- Package record's writer in memory, and the contracts of its methods. -/
namespace Go.Proofs.YtnogdjpbnhnmaaaGreatDoor
open Go.RowKit Go.Wire1

/-- The bytes of a field. -/
def wrF (r : Rc) (x : Nat) : List Int :=
  match x with
  | 119 => enc r.id.toNat
  | 110 => enc r.n.toNat
  | 105 => enc (8 * r.num + r.row).toNat
  | 98 => enc (8 * r.round + r.who).toNat
  | 115 => [if r.same then 1 else 0]
  | 99 => encC r.c
  | 113 => if noopR r then [] else enc r.seq.toNat
  | _ => if noopR r then [] else packL 2 r.deps
/-- The bytes of a record. -/
def recB (r : Rc) : List Int := r.kind :: (rowR r.kind).flatMap (wrF r)
/-- What its fields' bytes want of a field. -/
def fitF (r : Rc) (x : Nat) : Prop :=
  match x with
  | 119 => 0 ≤ r.id ∧ r.id ≤ 1073741824
  | 110 => 0 ≤ r.n ∧ r.n ≤ 1073741824
  | 105 => 0 ≤ r.row ∧ r.row ≤ 7 ∧ 0 ≤ r.num ∧ r.num ≤ 1048576
  | 98 => 0 ≤ r.who ∧ r.who ≤ 7 ∧ 0 ≤ r.round ∧ r.round ≤ 65535
  | 115 => True
  | 99 => chk 2 r.c = 0
  | 113 => 0 ≤ r.seq ∧ r.seq ≤ 1073741824
  | _ => isVec r.deps = true

/-- A writer: the record, and the row of our own that is being written. -/
structure Wr (w0 w : World) (q : Nat) (r : Rc) (v : Value) (out : List Int) : Prop where
  box : Blk w q (rcs r ++ [v])
  tag : ∃ cs, w.heap[q]? = some (.cells cs 66 (0, 0))
  own : w.ownsRow w0.heap.size 5 1 v out.length (out.map (Value.int .u8))
  low : Below w0.heap.size w0 w
  hq : w0.heap.size ≤ q
def Wx (w0 w : World) (q : Nat) (r : Rc) (out : List Int) : Prop := ∃ v, Wr w0 w q r v out
section
variable {w0 w w' : World} {q : Nat} {r : Rc} {v : Value} {out : List Int}
theorem Wr.apart (h : Wr w0 w q r v out) : some q ≠ v.ownBlock := by
  intro e
  obtain ⟨cs, h1⟩ := h.tag
  rcases h.own.2 with ⟨rfl, _⟩ | ⟨g', cap, cur, rfl, _, hh, _⟩
  · simp [Value.ownBlock] at e
  · simp only [Value.ownBlock, Option.some.injEq] at e
    subst e
    rw [h1] at hh
    injection hh with hh
    injection hh with _ h3
    exact absurd h3 (by decide)
theorem Wr.on (h : Wr w0 w q r v out) (hb : Below w.heap.size w w') : Wr w0 w' q r v out := by
  obtain ⟨cs, h1⟩ := h.tag
  exact ⟨h.box.on hb, ⟨cs, (hb.block q h.box.lt).trans h1⟩, own_below h.own hb (Nat.le_refl _), h.low.trans (hb.mono h.low.size), h.hq⟩
theorem Wx.on (h : Wx w0 w q r out) (hb : Below w.heap.size w w') : Wx w0 w' q r out := by obtain ⟨v, h⟩ := h; exact ⟨v, h.on hb⟩
theorem Wr.drewN (h : Wr w0 w q r v out) (n : Nat) : Wr w0 (w.drewN n) q r v out := ⟨h.box.drewN n, h.tag, h.own, h.low.drewN' n, h.hq⟩
theorem Wx.drew (h : Wx w0 w q r out) : Wx w0 w.drew q r out := by obtain ⟨v, h⟩ := h; exact ⟨v, h.drewN 1⟩
theorem Wr.lt (h : Wr w0 w q r v out) : q < w.heap.size := h.box.lt
theorem rcs_app (r : Rc) (v : Value) {j : Nat} (hj : j < 18) : (rcs r ++ [v])[j]? = (rcs r)[j]? := List.getElem?_append_left (by rw [rcs_len]; exact hj)
theorem Wr.cell (h : Wr w0 w q r v out) {j : Nat} {u : Value} (hu : (rcs r)[j]? = some u) : w.cell? ⟨q, j, none⟩ = some u := h.box.cell j u (by rw [rcs_app r v (by have := (List.getElem?_eq_some_iff.1 hu).1; rwa [rcs_len] at this)]; exact hu)
theorem Wr.range (h : Wr w0 w q r v out) : w.rangeAt q 0 (rcs r) := fun j u hu => by rw [Nat.zero_add]; exact h.cell hu
theorem Wr.out18 (h : Wr w0 w q r v out) : w.cell? ⟨q, 18, none⟩ = some v := h.box.cell 18 v rfl
/-- The row has grown, and stands in the box again. -/
theorem Wr.put (h : Wr w0 w q r v out) {v' : Value} {M : List Int} (ho : w'.ownsRow w0.heap.size 5 1 v' M.length (M.map (Value.int .u8))) (hg : w.grownBy w' v.ownBlock) :
    Blk w' q (rcs r ++ [v]) ∧ Wr w0 (w'.setCell ⟨q, 18, none⟩ v') q r v' M := by
  obtain ⟨cs, h1⟩ := h.tag
  have eb : w'.heap[q]? = w.heap[q]? := hg.block q h.lt h.apart
  have hb' : Blk w' q (rcs r ++ [v]) := h.box.of_block eb
  have hl' : Below w0.heap.size w0 w' := h.low.grown hg h.low.size (fun k hk => (h.own.lt k hk).1)
  have t' : w'.heap[q]? = some (.cells cs 66 (0, 0)) := eb.trans h1
  refine ⟨hb', ⟨hb'.setAt 18 v', ⟨_, heap_setCell_same w' q 18 cs 66 v' t'⟩, ?_, hl'.setCell (p := ⟨q, 18, none⟩) h.hq _, h.hq⟩⟩
  refine ⟨ho.1, ?_⟩
  rcases ho.2 with h2 | ⟨g, cap, cur, rfl, hB, hh, rest⟩
  · exact .inl h2
  · refine .inr ⟨g, cap, cur, rfl, hB, ?_, rest⟩
    rw [Below.heap_setCell _ _ _ _ (by
      show g ≠ q
      intro e
      subst e
      rw [t'] at hh
      injection hh with hh
      injection hh with _ h3
      exact absurd h3 (by decide))]
    exact hh
end

theorem kept_below {w w' : World} {e : TypeId} {b : Option Nat} (h : Below w.heap.size w w') : Lib.OthersKept e b w w' := fun k o hk _ _ => by
  rw [h.block k (Array.getElem?_eq_some_iff.1 hk).1]; exact hk
theorem row_tag {w : World} {B : Nat} {e : TypeId} {s : Nat} {v : Value} {n : Nat} {xs : List Value} (h : w.ownsRow B e s v n xs) : ∀ g, v.ownBlock = some g → ∃ c fz, w.heap[g]? = some (.cells c e fz) := by
  intro g hg
  rcases h.2 with ⟨rfl, _⟩ | ⟨g', cap, cur, rfl, _, hh, _⟩
  · simp [Value.ownBlock] at hg
  · simp only [Value.ownBlock, Option.some.injEq] at hg
    subst hg
    exact ⟨cur, _, hh⟩
section
variable (w0 : World) (q : Nat) (r : Rc)
set_option maxHeartbeats 4000000 in
set_option maxRecDepth 100000 in
theorem wput_any (out : List Int) (C : Nat) (u : Value) (E : List Int) (w : World) (h : Wx w0 w q r out) (hs : w.ownsRow C 5 1 u E.length (E.map (Value.int .u8))) (hE : 0 < E.length) (hlen : out.length + E.length ≤ 1000000) :
    Calls Tryz.prog 92 #[.pointer (some ⟨q, 0, none⟩), u] w fun e w' => e = .returned (.tuple #[]) ∧ Wx w0 w' q r (out ++ E) ∧ Lib.OthersKept 5 (some q) w w' := by
  obtain ⟨v, h⟩ := h
  obtain ⟨M, hM⟩ : ∃ M, Hid (out ++ E = M) := ⟨_, rfl⟩
  have c18 := h.out18
  have HW := hide h
  have HS := hide hs
  have hB : w0.heap.size ≤ w.heap.size := h.low.size
  rw [hM.out]
  clear h hs
  go_enter Tryz.func92, Tryz.ntmps92
  go_wp2_with (first | (refine wpList_join rfl _ _ rfl w0.heap.size C v u out E M hM rfl rfl HW.out.own HS.out hE hlen hB ?_))
  intro v' w1 ho hg
  have hMl : 0 < M.length := by rw [← hM.out, List.length_append]; omega
  obtain ⟨g1, cap1, rfl, _⟩ := mine_of ho hMl
  have R := hide (HW.out.put ho hg)
  have K : Hid (Lib.OthersKept 5 (some q) w (w1.setCell ⟨q, 18, none⟩ (.slice (some ⟨g1, 0, none⟩) M.length cap1))) := ((Lib.OthersKept.refl 5 (some q) w).grown hg (row_tag HW.out.own)).setCell _ rfl _
  have d18 : w1.cell? ⟨q, 18, none⟩ = some v := R.out.1.cell 18 v rfl
  have t18 := R.out.1.thaw 18
  clear ho hg c18
  go_wp2
  go_end0
  exact ⟨rfl, ⟨_, R.out.2⟩, K.out⟩

set_option maxHeartbeats 4000000 in
set_option maxRecDepth 100000 in
theorem wnumber_any (out : List Int) (x : Nat) (w : World) (h : Wx w0 w q r out) (hx : x ≤ 1073741824) (hlen : out.length ≤ 900000) :
    Calls Tryz.prog 88 #[.pointer (some ⟨q, 0, none⟩), .int .i64 (x : Int)] w fun e w' => e = .returned (.tuple #[]) ∧ Wx w0 w' q r (out ++ enc x) ∧ Lib.OthersKept 5 (some q) w w' := by
  have HW := hide h
  have hxx : x < 18446744073709551616 := by omega
  have h0 : (0 : Int) ≤ (x : Int) := by omega
  have h1 : (x : Int) ≤ 9223372036854775807 := by omega
  have hp : Hid (0 < (enc x).length) := by show 0 < _; rw [enc_len x hxx]; omega
  have hq : Hid ((enc x).length ≤ 10) := by show _ ≤ _; rw [enc_len x hxx]; have := cnt_le 9 (x / 128); omega
  clear h
  go_enter Tryz.func88, Tryz.ntmps88
  go_wp2_with fail
  refine (putUint_any x _ hxx).mono ?_
  rintro e w1 ⟨u, rfl, ho, hb⟩
  have W1 := hide (HW.out.on hb)
  have O1 := hide ho
  have K1 : Hid (Lib.OthersKept 5 (some q) w w1) := kept_below hb
  clear hb ho
  go_wp2_with fail
  refine (wput_any w0 q r out _ u (enc x) _ W1.out O1.out hp.out (by have := hq.out; omega)).mono ?_
  rintro e w2 ⟨rfl, W2, K2⟩
  have F := hide (And.intro W2 (K1.out.trans K2))
  clear W2 K2
  go_wp2
  go_end0
  exact ⟨rfl, F.out⟩

set_option maxHeartbeats 4000000 in
set_option maxRecDepth 100000 in
theorem wpacked_any (out : List Int) (c y : Nat) (w : World) (h : Wx w0 w q r out) (hc : c ≤ 1048576) (hy : y ≤ 7) (hlen : out.length ≤ 900000) :
    Calls Tryz.prog 90 #[.pointer (some ⟨q, 0, none⟩), .int .i64 (c : Int), .int .i64 (y : Int)] w fun e w' => e = .returned (.tuple #[]) ∧ Wx w0 w' q r (out ++ enc (8 * c + y)) ∧ Lib.OthersKept 5 (some q) w w' := by
  have HW := hide h
  have h0 : (0 : Int) ≤ (c : Int) := by omega
  have h1 : (c : Int) ≤ 1048576 := by omega
  have h2 : (0 : Int) ≤ (y : Int) := by omega
  have h3 : (y : Int) ≤ 7 := by omega
  clear h
  go_enter Tryz.func90, Tryz.ntmps90
  go_wp2_with fail
  refine (wnumber_any w0 q r out (8 * c + y) _ HW.out (by omega) hlen).mono ?_
  rintro e w1 ⟨rfl, W1, K1⟩
  have F := hide (And.intro W1 K1)
  clear W1 K1
  go_wp2
  go_end0
  exact ⟨rfl, F.out⟩

set_option maxHeartbeats 4000000 in
set_option maxRecDepth 100000 in
theorem wid_any (out : List Int) (w : World) (h : Wx w0 w q r out) (hf : fitF r 119) (hlen : out.length ≤ 800000) :
    Calls Tryz.prog 44 #[.pointer (some ⟨q, 0, none⟩)] w fun e w' => e = .returned (.tuple #[]) ∧ Wx w0 w' q r (out ++ wrF r 119) ∧ Lib.OthersKept 5 (some q) w w' := by
  obtain ⟨v, h⟩ := h
  obtain ⟨k, hk⟩ := Int.eq_ofNat_of_zero_le hf.1
  have hk2 : k ≤ 1073741824 := by have := hf.2; omega
  have c16 : w.cell? ⟨q, 16, none⟩ = some (.int .i64 (k : Int)) := by rw [← hk]; exact h.cell (rcs16 r)
  have HW : Hid (Wx w0 w q r out) := ⟨v, h⟩
  have HQ : Hid (wrF r 119 = enc k) := by show enc r.id.toNat = _; rw [hk]; rfl
  rw [HQ.out]
  clear h hf hk
  go_enter Tryz.func44, Tryz.ntmps44
  go_wp2_with fail
  refine (wnumber_any w0 q r out k _ HW.out hk2 (by omega)).mono ?_
  rintro e w1 ⟨rfl, W1, K1⟩
  have F := hide (And.intro W1 K1)
  clear W1 K1
  go_wp2
  go_end0
  exact ⟨rfl, F.out⟩

set_option maxHeartbeats 4000000 in
set_option maxRecDepth 100000 in
theorem wsize_any (out : List Int) (w : World) (h : Wx w0 w q r out) (hf : fitF r 110) (hlen : out.length ≤ 800000) :
    Calls Tryz.prog 46 #[.pointer (some ⟨q, 0, none⟩)] w fun e w' => e = .returned (.tuple #[]) ∧ Wx w0 w' q r (out ++ wrF r 110) ∧ Lib.OthersKept 5 (some q) w w' := by
  obtain ⟨v, h⟩ := h
  obtain ⟨k, hk⟩ := Int.eq_ofNat_of_zero_le hf.1
  have hk2 : k ≤ 1073741824 := by have := hf.2; omega
  have c17 : w.cell? ⟨q, 17, none⟩ = some (.int .i64 (k : Int)) := by rw [← hk]; exact h.cell (rcs17 r)
  have HW : Hid (Wx w0 w q r out) := ⟨v, h⟩
  have HQ : Hid (wrF r 110 = enc k) := by show enc r.n.toNat = _; rw [hk]; rfl
  rw [HQ.out]
  clear h hf hk
  go_enter Tryz.func46, Tryz.ntmps46
  go_wp2_with fail
  refine (wnumber_any w0 q r out k _ HW.out hk2 (by omega)).mono ?_
  rintro e w1 ⟨rfl, W1, K1⟩
  have F := hide (And.intro W1 K1)
  clear W1 K1
  go_wp2
  go_end0
  exact ⟨rfl, F.out⟩

set_option maxHeartbeats 4000000 in
set_option maxRecDepth 100000 in
theorem winst_any (out : List Int) (w : World) (h : Wx w0 w q r out) (hf : fitF r 105) (hlen : out.length ≤ 800000) :
    Calls Tryz.prog 48 #[.pointer (some ⟨q, 0, none⟩)] w fun e w' => e = .returned (.tuple #[]) ∧ Wx w0 w' q r (out ++ wrF r 105) ∧ Lib.OthersKept 5 (some q) w w' := by
  obtain ⟨v, h⟩ := h
  obtain ⟨f1, f2, f3, f4⟩ := hf
  obtain ⟨c, hc⟩ := Int.eq_ofNat_of_zero_le f3
  obtain ⟨y, hy⟩ := Int.eq_ofNat_of_zero_le f1
  have hc2 : c ≤ 1048576 := by omega
  have hy2 : y ≤ 7 := by omega
  have HC := hide hc
  have HY := hide hy
  have c2 : w.cell? ⟨q, 2, none⟩ = some (.int .i64 (c : Int)) := by rw [← hc]; exact h.cell (rcs2 r)
  have c1 : w.cell? ⟨q, 1, none⟩ = some (.int .i64 (y : Int)) := by rw [← hy]; exact h.cell (rcs1 r)
  have HW : Hid (Wx w0 w q r out) := ⟨v, h⟩
  have HQ : Hid (wrF r 105 = enc (8 * c + y)) := by show enc (8 * r.num + r.row).toNat = _; rw [hc, hy]; exact congrArg enc (by omega)
  rw [HQ.out]
  clear h f1 f2 f3 f4 hc hy
  go_enter Tryz.func48, Tryz.ntmps48
  go_wp2
  refine wp_region_noPanic ?_
  refine wp_region_held_drew (S := (fun w' => w'.cell? ⟨q, 2, none⟩ = some (.int .i64 (c : Int)) ∧ w'.cell? ⟨q, 1, none⟩ = some (.int .i64 (y : Int)))) (by kernel_rfl) ⟨c2, c1⟩ (fun hHeld => ?_)
  refine tk 0 ?_
  refine tk 1 ?_
  refine tk 2 ?_
  refine tk 3 ?_
  refine tk 4 ?_
  refine tk 5 ?_
  refine tk 6 ?_
  refine tk 7 ?_
  refine tk 8 ?_
  refine tk 9 ?_
  refine tk 10 ?_
  refine tk 11 ?_
  refine tk 12 ?_
  refine wpAnyH_ready (rs := [13]) (by kernel_rfl) (by simp) ?_
  refine AllReadyH.cons rfl (fun K hK => ?_) AllReadyH.nil
  rw [if_pos (by rfl)]
  go_wp2_with fail
  refine (wpacked_any w0 q r out c y _ HW.out.drew hc2 hy2 (by omega)).mono ?_
  rintro e w1 ⟨rfl, W1, K1⟩
  obtain ⟨v1, W1⟩ := W1
  have e2 : w1.cell? ⟨q, 2, none⟩ = some (.int .i64 (c : Int)) := by rw [← HC.out]; exact W1.cell (rcs2 r)
  have e1 : w1.cell? ⟨q, 1, none⟩ = some (.int .i64 (y : Int)) := by rw [← HY.out]; exact W1.cell (rcs1 r)
  refine hK.out _ _ ⟨e2, e1⟩ (fun hHeld => ?_)
  clear hK K
  try simp only [Act.put, List.getElem_toArray, List.getElem_cons_succ, List.getElem_cons_zero, List.setIfInBounds_toArray, List.set_cons_zero, List.set_cons_succ]
  refine wpAnyH_done (by kernel_rfl) ?_ _
  refine NoPanic.normal ?_
  have F : Hid (Wx w0 w1 q r (out ++ enc (8 * c + y)) ∧ Lib.OthersKept 5 (some q) w w1) := ⟨⟨v1, W1⟩, K1⟩
  clear W1 K1
  go_wp2
  go_end0
  exact ⟨rfl, F.out⟩

set_option maxHeartbeats 4000000 in
set_option maxRecDepth 100000 in
theorem wballot_any (out : List Int) (w : World) (h : Wx w0 w q r out) (hf : fitF r 98) (hlen : out.length ≤ 800000) :
    Calls Tryz.prog 50 #[.pointer (some ⟨q, 0, none⟩)] w fun e w' => e = .returned (.tuple #[]) ∧ Wx w0 w' q r (out ++ wrF r 98) ∧ Lib.OthersKept 5 (some q) w w' := by
  obtain ⟨v, h⟩ := h
  obtain ⟨f1, f2, f3, f4⟩ := hf
  obtain ⟨c, hc⟩ := Int.eq_ofNat_of_zero_le f3
  obtain ⟨y, hy⟩ := Int.eq_ofNat_of_zero_le f1
  have hc2 : c ≤ 1048576 := by omega
  have hy2 : y ≤ 7 := by omega
  have HC := hide hc
  have HY := hide hy
  have c3 : w.cell? ⟨q, 3, none⟩ = some (.int .i64 (c : Int)) := by rw [← hc]; exact h.cell (rcs3 r)
  have c4 : w.cell? ⟨q, 4, none⟩ = some (.int .i64 (y : Int)) := by rw [← hy]; exact h.cell (rcs4 r)
  have HW : Hid (Wx w0 w q r out) := ⟨v, h⟩
  have HQ : Hid (wrF r 98 = enc (8 * c + y)) := by show enc (8 * r.round + r.who).toNat = _; rw [hc, hy]; exact congrArg enc (by omega)
  rw [HQ.out]
  clear h f1 f2 f3 f4 hc hy
  go_enter Tryz.func50, Tryz.ntmps50
  go_wp2
  refine wp_region_noPanic ?_
  refine wp_region_held_drew (S := (fun w' => w'.cell? ⟨q, 3, none⟩ = some (.int .i64 (c : Int)) ∧ w'.cell? ⟨q, 4, none⟩ = some (.int .i64 (y : Int)))) (by kernel_rfl) ⟨c3, c4⟩ (fun hHeld => ?_)
  refine tk 0 ?_
  refine tk 1 ?_
  refine tk 2 ?_
  refine tk 3 ?_
  refine tk 4 ?_
  refine tk 5 ?_
  refine tk 6 ?_
  refine tk 7 ?_
  refine tk 8 ?_
  refine tk 9 ?_
  refine tk 10 ?_
  refine tk 11 ?_
  refine tk 12 ?_
  refine wpAnyH_ready (rs := [13]) (by kernel_rfl) (by simp) ?_
  refine AllReadyH.cons rfl (fun K hK => ?_) AllReadyH.nil
  rw [if_pos (by rfl)]
  go_wp2_with fail
  refine (wpacked_any w0 q r out c y _ HW.out.drew hc2 hy2 (by omega)).mono ?_
  rintro e w1 ⟨rfl, W1, K1⟩
  obtain ⟨v1, W1⟩ := W1
  have e3 : w1.cell? ⟨q, 3, none⟩ = some (.int .i64 (c : Int)) := by rw [← HC.out]; exact W1.cell (rcs3 r)
  have e4 : w1.cell? ⟨q, 4, none⟩ = some (.int .i64 (y : Int)) := by rw [← HY.out]; exact W1.cell (rcs4 r)
  refine hK.out _ _ ⟨e3, e4⟩ (fun hHeld => ?_)
  clear hK K
  try simp only [Act.put, List.getElem_toArray, List.getElem_cons_succ, List.getElem_cons_zero, List.setIfInBounds_toArray, List.set_cons_zero, List.set_cons_succ]
  refine wpAnyH_done (by kernel_rfl) ?_ _
  refine NoPanic.normal ?_
  have F : Hid (Wx w0 w1 q r (out ++ enc (8 * c + y)) ∧ Lib.OthersKept 5 (some q) w w1) := ⟨⟨v1, W1⟩, K1⟩
  clear W1 K1
  go_wp2
  go_end0
  exact ⟨rfl, F.out⟩

set_option maxHeartbeats 4000000 in
set_option maxRecDepth 100000 in
theorem wsame_any (out : List Int) (w : World) (h : Wx w0 w q r out) (_ : fitF r 115) (hlen : out.length ≤ 800000) :
    Calls Tryz.prog 52 #[.pointer (some ⟨q, 0, none⟩)] w fun e w' => e = .returned (.tuple #[]) ∧ Wx w0 w' q r (out ++ wrF r 115) ∧ Lib.OthersKept 5 (some q) w w' := by
  obtain ⟨v, h⟩ := h
  have HW : Hid (Wr w0 w q r v out) := h
  have c5 : w.cell? ⟨q, 5, none⟩ = some (.bool r.same) := h.cell (rcs5 r)
  clear h
  cases hs : r.same with
  | true =>
    have HQ : Hid (wrF r 115 = [1]) := by show [if r.same then (1 : Int) else 0] = _; rw [hs]; rfl
    rw [hs] at c5
    rw [HQ.out]
    clear hs
    have O1 : Hid ((w.alloc (.cells #[.int .u8 1] 5)).ownsRow w.heap.size 5 1 (.slice (some ⟨w.heap.size, 0, none⟩) 1 1) [(1 : Int)].length ([(1 : Int)].map (Value.int .u8))) := own_one w w.heap.size (Nat.le_refl _) 1
    have W1 : Hid (Wx w0 (w.alloc (.cells #[.int .u8 1] 5)) q r out) := ⟨v, HW.out.on ((Below.refl _ _).alloc (Nat.le_refl _) _)⟩
    go_enter Tryz.func52, Tryz.ntmps52
    go_wp2_with fail
    refine (wput_any w0 q r out _ _ [1] _ W1.out O1.out (by show 0 < 1; omega) (by show out.length + 1 ≤ _; omega)).mono ?_
    rintro e w2 ⟨rfl, W2, K2⟩
    have F := hide (And.intro W2 ((kept_below ((Below.refl _ _).alloc (Nat.le_refl _) _) : Lib.OthersKept 5 (some q) w (w.alloc (.cells #[.int .u8 1] 5))).trans K2))
    clear W2 K2
    go_wp2
    go_end0
    exact ⟨rfl, F.out⟩
  | false =>
    have HQ : Hid (wrF r 115 = [0]) := by show [if r.same then (1 : Int) else 0] = _; rw [hs]; rfl
    rw [hs] at c5
    rw [HQ.out]
    clear hs
    have O1 : Hid ((w.alloc (.cells #[.int .u8 0] 5)).ownsRow w.heap.size 5 1 (.slice (some ⟨w.heap.size, 0, none⟩) 1 1) [(0 : Int)].length ([(0 : Int)].map (Value.int .u8))) := own_one w w.heap.size (Nat.le_refl _) 0
    have W1 : Hid (Wx w0 (w.alloc (.cells #[.int .u8 0] 5)) q r out) := ⟨v, HW.out.on ((Below.refl _ _).alloc (Nat.le_refl _) _)⟩
    go_enter Tryz.func52, Tryz.ntmps52
    go_wp2_with fail
    refine (wput_any w0 q r out _ _ [0] _ W1.out O1.out (by show 0 < 1; omega) (by show out.length + 1 ≤ _; omega)).mono ?_
    rintro e w2 ⟨rfl, W2, K2⟩
    have F := hide (And.intro W2 ((kept_below ((Below.refl _ _).alloc (Nat.le_refl _) _) : Lib.OthersKept 5 (some q) w (w.alloc (.cells #[.int .u8 0] 5))).trans K2))
    clear W2 K2
    go_wp2
    go_end0
    exact ⟨rfl, F.out⟩

set_option maxHeartbeats 4000000 in
set_option maxRecDepth 100000 in
theorem wcmd_any (out : List Int) (w : World) (h : Wx w0 w q r out) (hf : fitF r 99) (hlen : out.length ≤ 800000) (hK : Knd w) (hk1 : r.c.key.size ≤ 140737488351232) (hk2 : r.c.key2.size ≤ 140737488351232) (hn1 : -9223372036854775808 ≤ r.c.n) (hn2 : r.c.n ≤ 9223372036854775807) :
    Calls Tryz.prog 54 #[.pointer (some ⟨q, 0, none⟩)] w fun e w' => e = .returned (.tuple #[]) ∧ Wx w0 w' q r (out ++ wrF r 99) ∧ Lib.OthersKept 5 (some q) w w' := by
  obtain ⟨v, h⟩ := h
  have HW : Hid (Wr w0 w q r v out) := h
  have HR : Hid (w.rangeAt q 6 [.int .i64 r.c.kind, .int .i64 r.c.client, .int .i64 r.c.req, .string r.c.key, .string r.c.key2, .string r.c.val, .string r.c.old, .int .i64 r.c.n]) := range_cmd h.range
  have HF : Hid (chk 2 r.c = 0) := hf
  have HK := hide hK
  have HL : Hid ((encC r.c).length ≤ 131281) := encC_le hf
  have HP : Hid (0 < (encC r.c).length) := by show 0 < _; unfold encC; split <;> simp
  have HQ : Hid (wrF r 99 = encC r.c) := rfl
  rw [HQ.out]
  clear h hf hK
  go_enter Tryz.func54, Tryz.ntmps54
  go_wp2_with (first | (refine wpList_load_mid rfl 28 _ rfl q 6 rfl [.int .i64 r.c.kind, .int .i64 r.c.client, .int .i64 r.c.req, .string r.c.key, .string r.c.key2, .string r.c.val, .string r.c.old, .int .i64 r.c.n] _ HR.out Tryz.underlying28 rfl (by kernel_rfl) ?_))
  refine (encode_any 2 r.c _ HK.out hk1 hk2 hn1 hn2 HF.out).mono ?_
  rintro e w1 ⟨u, rfl, ho, hb⟩
  have W1 : Hid (Wx w0 w1 q r out) := ⟨v, HW.out.on hb⟩
  have O1 := hide ho
  have K1 : Hid (Lib.OthersKept 5 (some q) w w1) := kept_below hb
  clear hb ho
  go_wp2_with fail
  refine (wput_any w0 q r out _ u (encC r.c) _ W1.out O1.out HP.out (by have := HL.out; omega)).mono ?_
  rintro e w2 ⟨rfl, W2, K2⟩
  have F := hide (And.intro W2 (K1.out.trans K2))
  clear W2 K2
  go_wp2
  go_end0
  exact ⟨rfl, F.out⟩

set_option maxHeartbeats 4000000 in
set_option maxRecDepth 100000 in
theorem wseq_any (out : List Int) (w : World) (h : Wx w0 w q r out) (hf : fitF r 113) (hlen : out.length ≤ 800000) :
    Calls Tryz.prog 56 #[.pointer (some ⟨q, 0, none⟩)] w fun e w' => e = .returned (.tuple #[]) ∧ Wx w0 w' q r (out ++ wrF r 113) ∧ Lib.OthersKept 5 (some q) w w' := by
  obtain ⟨v, h⟩ := h
  have HW : Hid (Wr w0 w q r v out) := h
  have HR : Hid (w.rangeAt q 0 (rcs r)) := h.range
  obtain ⟨k, hk⟩ := Int.eq_ofNat_of_zero_le hf.1
  have hk2 : k ≤ 1073741824 := by have := hf.2; omega
  have HKk := hide hk
  clear h hf hk
  cases h0 : noopR r with
  | true =>
    have HQ : Hid (wrF r 113 = []) := by show (if noopR r then _ else _) = _; rw [h0]; rfl
    rw [HQ.out, List.append_nil]
    go_enter Tryz.func56, Tryz.ntmps56
    go_wp2_with (first | (refine wpList_load_mid rfl 31 _ rfl q 0 rfl (rcs r) _ HR.out Tryz.underlying31 rfl (by kernel_rfl) ?_))
    refine (risNoop_any r _).mono ?_
    rintro e w1 ⟨rfl, hb⟩
    rw [h0]
    have W1 : Hid (Wx w0 w1 q r out ∧ Lib.OthersKept 5 (some q) w w1) := ⟨⟨v, HW.out.on hb⟩, kept_below hb⟩
    clear hb h0
    go_wp2
    go_end0
    exact ⟨rfl, W1.out⟩
  | false =>
    have HQ : Hid (wrF r 113 = enc k) := by show (if noopR r then _ else enc r.seq.toNat) = _; rw [h0, HKk.out]; rfl
    rw [HQ.out]
    go_enter Tryz.func56, Tryz.ntmps56
    go_wp2_with (first | (refine wpList_load_mid rfl 31 _ rfl q 0 rfl (rcs r) _ HR.out Tryz.underlying31 rfl (by kernel_rfl) ?_))
    refine (risNoop_any r _).mono ?_
    rintro e w1 ⟨rfl, hb⟩
    rw [h0]
    have W1 : Hid (Wr w0 w1 q r v out) := HW.out.on hb
    have K1 : Hid (Lib.OthersKept 5 (some q) w w1) := kept_below hb
    have c14 : w1.cell? ⟨q, 14, none⟩ = some (.int .i64 (k : Int)) := by rw [← HKk.out]; exact W1.out.cell (rcs14 r)
    clear hb h0
    go_wp2_with fail
    refine (wnumber_any w0 q r out k _ ⟨v, W1.out⟩ hk2 (by omega)).mono ?_
    rintro e w2 ⟨rfl, W2, K2⟩
    have F := hide (And.intro W2 (K1.out.trans K2))
    clear W2 K2
    go_wp2
    go_end0
    exact ⟨rfl, F.out⟩

set_option maxHeartbeats 4000000 in
set_option maxRecDepth 100000 in
theorem wdeps_any (out : List Int) (w : World) (h : Wx w0 w q r out) (hf : fitF r 100) (hlen : out.length ≤ 800000) (hd : SegI w r.da r.dn r.deps) :
    Calls Tryz.prog 58 #[.pointer (some ⟨q, 0, none⟩)] w fun e w' => e = .returned (.tuple #[]) ∧ Wx w0 w' q r (out ++ wrF r 100) ∧ Lib.OthersKept 5 (some q) w w' := by
  obtain ⟨v, h⟩ := h
  have HW : Hid (Wr w0 w q r v out) := h
  have HR : Hid (w.rangeAt q 0 (rcs r)) := h.range
  have HF : Hid (isVec r.deps = true) := hf
  have HD := hide hd
  clear h hf hd
  cases h0 : noopR r with
  | true =>
    have HQ : Hid (wrF r 100 = []) := by show (if noopR r then _ else _) = _; rw [h0]; rfl
    rw [HQ.out, List.append_nil]
    go_enter Tryz.func58, Tryz.ntmps58
    go_wp2_with (first | (refine wpList_load_mid rfl 31 _ rfl q 0 rfl (rcs r) _ HR.out Tryz.underlying31 rfl (by kernel_rfl) ?_))
    refine (risNoop_any r _).mono ?_
    rintro e w1 ⟨rfl, hb⟩
    rw [h0]
    have W1 : Hid (Wx w0 w1 q r out ∧ Lib.OthersKept 5 (some q) w w1) := ⟨⟨v, HW.out.on hb⟩, kept_below hb⟩
    clear hb h0
    go_wp2
    go_end0
    exact ⟨rfl, W1.out⟩
  | false =>
    have HQ : Hid (wrF r 100 = packL 2 r.deps) := by show (if noopR r then _ else packL 2 r.deps) = _; rw [h0]; rfl
    have HE0 : Hid (packE 2 r.deps = 0) := by
      show _ = _
      unfold packE
      rw [if_pos (Or.inr rfl)]
      have := fault_zero r.deps
      rw [HF.out, decide_eq_true_iff] at this
      omega
    have HRR : Hid (packR 2 r.deps = packL 2 r.deps) := by show _ = _; unfold packR; rw [if_pos HE0.out]
    have HL : Hid (1 ≤ (packL 2 r.deps).length ∧ (packL 2 r.deps).length ≤ 29) := by
      show _ ∧ _
      have e : packL 2 r.deps = Go.Wire1.tight r.deps := rfl
      have hv := HF.out
      unfold isVec at hv
      simp only [Bool.and_eq_true] at hv
      have h7 : r.deps.length ≤ 7 := (of_decide_eq_true hv.1).2
      have := diffK_le hv.2 r.deps.length
      rw [e, tight_len HF.out]
      omega
    rw [HQ.out]
    go_enter Tryz.func58, Tryz.ntmps58
    go_wp2_with (first | (refine wpList_load_mid rfl 31 _ rfl q 0 rfl (rcs r) _ HR.out Tryz.underlying31 rfl (by kernel_rfl) ?_))
    refine (risNoop_any r _).mono ?_
    rintro e w1 ⟨rfl, hb⟩
    rw [h0]
    have W1 : Hid (Wr w0 w1 q r v out) := HW.out.on hb
    have K1 : Hid (Lib.OthersKept 5 (some q) w w1) := kept_below hb
    have D1 : Hid (SegI w1 r.da r.dn r.deps) := HD.out.below hb (Nat.le_refl _)
    have c15 : w1.cell? ⟨q, 15, none⟩ = some (.slice r.da r.dn r.dc) := W1.out.cell (rcs15 r)
    clear hb h0
    go_wp2_with fail
    refine (pack_any 2 r.da r.dn r.dc r.deps _ D1.out).mono ?_
    rintro e w2 ⟨u, rfl, ho, hb⟩
    rw [HE0.out]
    rw [HRR.out] at ho
    have W2 : Hid (Wx w0 w2 q r out) := ⟨v, W1.out.on hb⟩
    have O2 := hide ho
    have K2 : Hid (Lib.OthersKept 5 (some q) w w2) := K1.out.trans (kept_below hb)
    clear hb ho
    go_wp2_with fail
    refine (wput_any w0 q r out _ u (packL 2 r.deps) _ W2.out O2.out (by have := HL.out; omega) (by have := HL.out; omega)).mono ?_
    rintro e w3 ⟨rfl, W3, K3⟩
    have F := hide (And.intro W3 (K2.out.trans K3))
    clear W3 K3
    go_wp2
    go_end0
    exact ⟨rfl, F.out⟩
end
end Go.Proofs.YtnogdjpbnhnmaaaGreatDoor
