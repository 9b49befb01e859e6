/- Texts of the proof, joined. -/
import Derived.Test.YtlhididcanedhaaGreatDoorJ01
import Derived.Test.YtlhididcanedhaaGreatDoorJ25
import Derived.Test.YtlhididcanedhaaGreatDoorRows
import Derived.Test.YtlhididcanedhaaGreatDoorJ02
import Derived.WalkLawsBesides
import Derived.Deep.Cut
import Derived.Test.YtlhididcanedhaaGreatDoorJ05
import Derived.Test.YtlhididcanedhaaGreatDoorJ12
import Derived.Test.YtlhididcanedhaaGreatDoorJ07
import Derived.Test.YtlhididcanedhaaGreatDoorJ17
import Derived.Test.YtlhididcanedhaaGreatDoorJ18
import Derived.Laws.AppendOwnNone
import Derived.Test.YtlhididcanedhaaGreatDoorJ03
import Derived.Test.YtlhididcanedhaaGreatDoorJ20
/- The contract of the reader's deps. -/
namespace Go.Proofs.YtlhididcanedhaaGreatDoor
open Go.RowKit Go.Wire1

theorem rupN_le {v n : Int} {l : List Int} (hy : Byt l) : upN (upk v n l) ≤ l.length := by
  cases h : upk v n l with
  | error e => exact Nat.zero_le _
  | ok p => obtain ⟨xs, q⟩ := p; exact (upk_len hy h).2.1
theorem RdS.putDeps {w0 w : World} {g k : Nat} {sa : Option Addr} {m cap : Nat} {l : List Int} {r : Rc} (h : RdS w0 w g k sa m cap l r) (a : Option Addr) (d c : Nat) (D : List Int) (hD : SegI w a d D) (hf : ∀ x, a = some x → 0 < d → g < x.block) :
    RdS w0 (w.setCell ⟨g, 17, none⟩ (.slice a d c)) g k sa m cap l (({ r with deps := D } : Rc).lay a d c) ∧ Touch g w (w.setCell ⟨g, 17, none⟩ (.slice a d c)) := by
  have T : Touch g w (w.setCell ⟨g, 17, none⟩ (.slice a d c)) := (Touch.refl g w).setB _
  exact ⟨⟨h.box.setAt 17 _, T.below h.hg h.low, h.hg, h.seg, h.src, h.byt, touch_segI T hD hf, hf⟩, T⟩
theorem own_far {w : World} {B : Nat} {a : Option Addr} {d c g : Nat} {L : List Int} (h : w.ownsRow B 3 1 (.slice a d c) L.length (L.map (Value.int .i64))) (hg : g < B) : ∀ x, a = some x → 0 < d → g < x.block := by
  intro x hx _
  rcases h.2 with ⟨h1, h2⟩ | ⟨b, cap, cur, e, hB, _⟩
  · injection h1 with h1 _ _
    rw [h1] at hx; cases hx
  · injection e with e _ _
    rw [hx] at e
    injection e with e
    rw [e]
    show g < b
    omega
theorem Touch.drew {g : Nat} {w w' : World} (h : Touch g w w') : Touch g w w'.drew := h.drewN 1
section
variable (w0 : World) (g k : Nat) (r : Rc)
set_option maxHeartbeats 4000000 in
set_option maxRecDepth 100000 in
theorem rddeps_any (l : List Int) (a : Nat → Addr) (w : World) (he : Errs w0 a) (h : Rsx w0 w g k l r) (h1 : 1 ≤ k) (h7 : k ≤ 7) :
    Calls Tryz.prog 52 #[.pointer (some ⟨g, 0, none⟩)] w fun e w' => ∃ aa d c, e = .returned (.int .i64 (rdE k r l 100)) ∧ Touch g w w' ∧ Rsx w0 w' g k (rdL k r l 100) ((rdR k r l 100).lay aa d c) := by
  have HX := hide h
  have HE := hide he
  obtain ⟨sa, m, cap, h⟩ := h
  have HR : Hid (w.rangeAt g 2 (rcs r)) := h.range
  have HS := hide h
  clear h he
  cases h0 : noopR r with
  | true =>
    obtain ⟨i0, hi, hz0, hz1, hz2⟩ := info_parts Tryz.info3
    have hmx : k ≤ maxLen := by unfold maxLen; omega
    have E1 : Hid (rdE k r l 100 = 0) := by show (if noopR r then 0 else _) = _; rw [h0]; rfl
    have E2 : Hid (rdL k r l 100 = l) := by show (if noopR r then l else _) = _; rw [h0]; rfl
    have E3 : Hid (rdR k r l 100 = { r with deps := List.replicate k 0 }) := by show ({ r with deps := if noopR r then List.replicate k 0 else _ } : Rc) = _; rw [h0]; rfl
    rw [E1.out, E2.out, E3.out]
    go_enter Tryz.func52, Tryz.ntmps52
    go_wp2_with (first | (refine wpList_load_mid rfl 30 _ rfl g 2 rfl (rcs r) _ HR.out Tryz.underlying30 rfl (by kernel_rfl) ?_))
    refine (risNoop_any r _).mono ?_
    rintro e w1 ⟨rfl, hb⟩
    rw [h0]
    have S1 : Hid (RdS w0 w1 g k sa m cap l r) := HS.out.on hb
    have T1 : Hid (Touch g w w1) := Touch.ofBelow hb
    have c0 := S1.out.c0
    have hgl := S1.out.lt
    clear hb h0
    go_wp2_with (first
      | (at_make; refine wpList_make_full _ rfl _ _ 28 rfl w1.heap.size 3 i0 (.int .i64 0) 1 Tryz.underlying28 hi hz0 hz1 .i64 .i64 _ _ k rfl rfl (by omega) (by omega) (by rw [hz2]; omega) hmx (Nat.le_refl _) ?_))
    intro w2 hown hgrow
    have hb2 : Below w1.heap.size w1 w2 := (Below.refl w1.heap.size w1).grown hgrow (Nat.le_refl _) (fun j hj => by cases hj)
    rw [toList_madeCells_one, ← List.map_replicate] at hown
    have hown' : w2.ownsRow w1.heap.size 3 1 (.slice (some ⟨w1.heap.size, 0, none⟩) k k) (List.replicate k (0 : Int)).length ((List.replicate k (0 : Int)).map (Value.int .i64)) := by rw [List.length_replicate]; exact hown
    have hfit : Fit (List.replicate k (0 : Int)) := fit_of (fun x hx => by rw [List.eq_of_mem_replicate hx]; omega)
    obtain ⟨a1, c1, e1, _, hsg⟩ := own_segI hown' hfit
    have hfar := own_far hown' hgl
    rw [List.length_replicate] at e1 hsg
    injection e1 with e1 _ e2
    subst e1 e2
    have S2 : Hid (RdS w0 w2 g k sa m cap l r) := S1.out.on hb2
    have PD := hide (S2.out.putDeps (some ⟨w1.heap.size, 0, none⟩) k k (List.replicate k 0) hsg hfar)
    have F : Hid (Touch g w (w2.setCell ⟨g, 17, none⟩ (.slice (some ⟨w1.heap.size, 0, none⟩) k k))) := (T1.out.trans (Touch.ofBelow hb2)).trans PD.out.2
    have c17 : w2.cell? ⟨g, 17, none⟩ = some (.slice r.da r.dn r.dc) := S2.out.cell (rcs15 r)
    have t17 := S2.out.box.thaw 17
    clear hown hgrow hb2 hown' hsg hfar
    go_wp2
    go_ret
    exact ⟨rfl, F.out, some ⟨w1.heap.size, 0, none⟩, k, k, sa, m, cap, PD.out.1⟩
  | false =>
    obtain ⟨L, hL⟩ : ∃ L, Hid (upL (upk 2 (k : Int) l) = L) := ⟨_, rfl⟩
    obtain ⟨kk, hkk⟩ : ∃ kk, Hid (upN (upk 2 (k : Int) l) = kk) := ⟨_, rfl⟩
    obtain ⟨f1, hf1⟩ : ∃ f1, Hid (((upE (upk 2 (k : Int) l) : Nat) : Int) = f1) := ⟨_, rfl⟩
    have hkl : Hid (kk ≤ l.length) := by rw [← hkk.out]; exact rupN_le HS.out.byt
    have FL : Hid (Fit L) := by rw [← hL.out]; exact fit_up HS.out.byt _ _
    have E1 : Hid (rdE k r l 100 = f1) := by show (if noopR r then 0 else ((upE (upk 2 (k : Int) l) : Nat) : Int)) = _; rw [h0, hf1.out]; rfl
    have E2 : Hid (rdL k r l 100 = l.drop kk) := by show (if noopR r then l else l.drop (upN (upk 2 (k : Int) l))) = _; rw [h0, hkk.out]; rfl
    have E3 : Hid (rdR k r l 100 = { r with deps := L }) := by show ({ r with deps := if noopR r then List.replicate k 0 else upL (upk 2 (k : Int) l) } : Rc) = _; rw [h0, hL.out]; rfl
    rw [E1.out, E2.out, E3.out]
    go_enter Tryz.func52, Tryz.ntmps52
    go_wp2_with (first | (refine wpList_load_mid rfl 30 _ rfl g 2 rfl (rcs r) _ HR.out Tryz.underlying30 rfl (by kernel_rfl) ?_))
    refine (risNoop_any r _).mono ?_
    rintro e w1 ⟨rfl, hb⟩
    rw [h0]
    have S1 : Hid (RdS w0 w1 g k sa m cap l r) := HS.out.on hb
    have T1 : Hid (Touch g w w1) := Touch.ofBelow hb
    have c0 := S1.out.c0
    have c1 := S1.out.c1
    have hgl := S1.out.lt
    clear hb h0
    go_wp2
    refine wp_region_noPanic ?_
    refine wp_region_held_drew (S := (fun w' => w'.cell? ⟨g, 0, none⟩ = some (.int .i64 (k : Int)) ∧ w'.cell? ⟨g, 1, none⟩ = some (.slice sa m cap))) (by kernel_rfl) ⟨c0, c1⟩ (fun hHeld => ?_)
    refine tk 0 ?_
    refine tk 1 ?_
    refine tk 2 ?_
    refine tk 3 ?_
    refine tk 4 ?_
    refine tk 5 ?_
    refine tk 6 ?_
    refine tk 7 ?_
    refine wpAnyH_ready (rs := [8]) (by kernel_rfl) (by simp) ?_
    refine AllReadyH.cons rfl (fun K hK => ?_) AllReadyH.nil
    rw [if_pos (by rfl)]
    go_wp2_with fail
    refine (unpackF_any 2 (k : Int) m cap sa l a _ ((S1.out.drewN 1).seg.below (S1.out.drewN 1).low (Nat.le_refl _)) S1.out.src S1.out.byt (HE.out.below (S1.out.drewN 1).low (Nat.le_refl _))).mono ?_
    rintro e w2 ⟨u, rfl, hown, hb2⟩
    rw [hL.out] at hown
    rw [hkk.out, hf1.out]
    have S2 : Hid (RdS w0 w2 g k sa m cap l r) := (S1.out.drewN 1).on hb2
    have T2 : Hid (Touch g w w2) := T1.out.drew.trans (Touch.ofBelow hb2)
    refine hK.out _ _ ⟨S2.out.c0, S2.out.c1⟩ (fun hHeld => ?_)
    clear hK K
    try simp only [Act.put, List.getElem_toArray, List.getElem_cons_succ, List.getElem_cons_zero, List.setIfInBounds_toArray, List.set_cons_zero, List.set_cons_succ]
    refine tk 9 ?_
    refine tk 10 ?_
    refine tk 11 ?_
    refine tk 12 ?_
    refine tk 13 ?_
    refine tk 14 ?_
    refine tk 15 ?_
    refine wpAnyH_done (by kernel_rfl) ?_ _
    refine NoPanic.normal ?_
    obtain ⟨a1, cc1, e1, _, hsg⟩ := own_segI hown FL.out
    subst e1
    have hfar := own_far (B := w1.heap.size) (g := g) (by exact hown) hgl
    have PD := hide (S2.out.putDeps a1 L.length cc1 L hsg hfar)
    have c17 : w2.cell? ⟨g, 17, none⟩ = some (.slice r.da r.dn r.dc) := S2.out.cell (rcs15 r)
    have t17 := S2.out.box.thaw 17
    obtain ⟨w3, hw3⟩ : ∃ w3, w3 = w2.setCell ⟨g, 17, none⟩ (.slice a1 L.length cc1) := ⟨_, rfl⟩
    have S3 : Hid (RdS w0 w3 g k sa m cap l (({ r with deps := L } : Rc).lay a1 L.length cc1)) := by rw [hw3]; exact PD.out.1
    have T3 : Hid (Touch g w w3) := by rw [hw3]; exact T2.out.trans PD.out.2
    clear hown hb2 hsg hfar hHeld PD
    go_upto_region 6 with fail
    rw [← hw3]
    clear hw3 c17 t17
    go_wp2_with fail
    refine (rpass_any w0 g k _ l kk _ hkl.out ⟨_, _, _, S3.out⟩).mono ?_
    rintro e w4 ⟨rfl, T4, S4⟩
    have F := hide (And.intro (T3.out.trans T4) S4)
    clear T4 S4
    go_wp2
    go_ret
    exact ⟨_, _, _, rfl, F.out⟩
end
end Go.Proofs.YtlhididcanedhaaGreatDoor
/- The contract of package record's fieldOf, a leaf a letter. -/
namespace Go.Proofs.YtlhididcanedhaaGreatDoor
open Go.RowKit Go.Wire1

set_option maxHeartbeats 4000000 in
set_option maxRecDepth 100000 in
theorem fieldOf_id (w : World) :
    Calls Tryz.prog 16 #[.int .i32 119] w fun e w' => e = .returned (.agg #[.func (.func 37) #[] #[], .func (.func 38) #[] #[]]) ∧ Below w.heap.size w w' := by
  obtain ⟨U, hU⟩ : ∃ U, U = w.alloc (.cells #[.nilFunc, .nilFunc] 56) := ⟨_, rfl⟩
  have BU : Hid (Below w.heap.size w U) := by rw [hU]; exact (Below.refl _ _).alloc (Nat.le_refl _) _
  have QU : Hid (Blk U w.heap.size [.nilFunc, .nilFunc]) := by rw [hU]; exact blk_new w 56 [.nilFunc, .nilFunc]
  have TH : Hid (U.there w.heap.size 0 2) := QU.out.there
  have R : Hid (Below w.heap.size w (U.setCells w.heap.size 0 [.func (.func 37) #[] #[], .func (.func 38) #[] #[]])) := below_cells (Nat.le_refl _) _ _ _ BU.out
  have RA : Hid ((U.setCells w.heap.size 0 [.func (.func 37) #[] #[], .func (.func 38) #[] #[]]).rangeAt w.heap.size 0 [.func (.func 37) #[] #[], .func (.func 38) #[] #[]]) := World.rangeAt_setCells_same _ _ _ _ TH.out
  go_enter Tryz.func16, Tryz.ntmps16
  go_upto_region 1 with fail
  rw [← hU]
  clear hU
  go_wp2_with (first | (refine wpList_store_mid rfl 56 _ _ rfl w.heap.size 0 #[.func (.func 37) #[] #[], .func (.func 38) #[] #[]] rfl rfl TH.out (by kernel_rfl) (by kernel_rfl) ?_))
  refine bodyPost_ret (results_cell_mid Tryz.results16 _ _ w.heap.size [.func (.func 37) #[] #[], .func (.func 38) #[] #[]] _ rfl RA.out Tryz.underlying56 rfl (by kernel_rfl)) rfl ⟨rfl, R.out⟩
set_option maxHeartbeats 4000000 in
set_option maxRecDepth 100000 in
theorem fieldOf_n (w : World) :
    Calls Tryz.prog 16 #[.int .i32 110] w fun e w' => e = .returned (.agg #[.func (.func 39) #[] #[], .func (.func 40) #[] #[]]) ∧ Below w.heap.size w w' := by
  obtain ⟨U, hU⟩ : ∃ U, U = w.alloc (.cells #[.nilFunc, .nilFunc] 56) := ⟨_, rfl⟩
  have BU : Hid (Below w.heap.size w U) := by rw [hU]; exact (Below.refl _ _).alloc (Nat.le_refl _) _
  have QU : Hid (Blk U w.heap.size [.nilFunc, .nilFunc]) := by rw [hU]; exact blk_new w 56 [.nilFunc, .nilFunc]
  have TH : Hid (U.there w.heap.size 0 2) := QU.out.there
  have R : Hid (Below w.heap.size w (U.setCells w.heap.size 0 [.func (.func 39) #[] #[], .func (.func 40) #[] #[]])) := below_cells (Nat.le_refl _) _ _ _ BU.out
  have RA : Hid ((U.setCells w.heap.size 0 [.func (.func 39) #[] #[], .func (.func 40) #[] #[]]).rangeAt w.heap.size 0 [.func (.func 39) #[] #[], .func (.func 40) #[] #[]]) := World.rangeAt_setCells_same _ _ _ _ TH.out
  go_enter Tryz.func16, Tryz.ntmps16
  go_upto_region 1 with fail
  rw [← hU]
  clear hU
  go_wp2_with (first | (refine wpList_store_mid rfl 56 _ _ rfl w.heap.size 0 #[.func (.func 39) #[] #[], .func (.func 40) #[] #[]] rfl rfl TH.out (by kernel_rfl) (by kernel_rfl) ?_))
  refine bodyPost_ret (results_cell_mid Tryz.results16 _ _ w.heap.size [.func (.func 39) #[] #[], .func (.func 40) #[] #[]] _ rfl RA.out Tryz.underlying56 rfl (by kernel_rfl)) rfl ⟨rfl, R.out⟩
set_option maxHeartbeats 4000000 in
set_option maxRecDepth 100000 in
theorem fieldOf_inst (w : World) :
    Calls Tryz.prog 16 #[.int .i32 105] w fun e w' => e = .returned (.agg #[.func (.func 41) #[] #[], .func (.func 42) #[] #[]]) ∧ Below w.heap.size w w' := by
  obtain ⟨U, hU⟩ : ∃ U, U = w.alloc (.cells #[.nilFunc, .nilFunc] 56) := ⟨_, rfl⟩
  have BU : Hid (Below w.heap.size w U) := by rw [hU]; exact (Below.refl _ _).alloc (Nat.le_refl _) _
  have QU : Hid (Blk U w.heap.size [.nilFunc, .nilFunc]) := by rw [hU]; exact blk_new w 56 [.nilFunc, .nilFunc]
  have TH : Hid (U.there w.heap.size 0 2) := QU.out.there
  have R : Hid (Below w.heap.size w (U.setCells w.heap.size 0 [.func (.func 41) #[] #[], .func (.func 42) #[] #[]])) := below_cells (Nat.le_refl _) _ _ _ BU.out
  have RA : Hid ((U.setCells w.heap.size 0 [.func (.func 41) #[] #[], .func (.func 42) #[] #[]]).rangeAt w.heap.size 0 [.func (.func 41) #[] #[], .func (.func 42) #[] #[]]) := World.rangeAt_setCells_same _ _ _ _ TH.out
  go_enter Tryz.func16, Tryz.ntmps16
  go_upto_region 1 with fail
  rw [← hU]
  clear hU
  go_wp2_with (first | (refine wpList_store_mid rfl 56 _ _ rfl w.heap.size 0 #[.func (.func 41) #[] #[], .func (.func 42) #[] #[]] rfl rfl TH.out (by kernel_rfl) (by kernel_rfl) ?_))
  refine bodyPost_ret (results_cell_mid Tryz.results16 _ _ w.heap.size [.func (.func 41) #[] #[], .func (.func 42) #[] #[]] _ rfl RA.out Tryz.underlying56 rfl (by kernel_rfl)) rfl ⟨rfl, R.out⟩
set_option maxHeartbeats 4000000 in
set_option maxRecDepth 100000 in
theorem fieldOf_bal (w : World) :
    Calls Tryz.prog 16 #[.int .i32 98] w fun e w' => e = .returned (.agg #[.func (.func 43) #[] #[], .func (.func 44) #[] #[]]) ∧ Below w.heap.size w w' := by
  obtain ⟨U, hU⟩ : ∃ U, U = w.alloc (.cells #[.nilFunc, .nilFunc] 56) := ⟨_, rfl⟩
  have BU : Hid (Below w.heap.size w U) := by rw [hU]; exact (Below.refl _ _).alloc (Nat.le_refl _) _
  have QU : Hid (Blk U w.heap.size [.nilFunc, .nilFunc]) := by rw [hU]; exact blk_new w 56 [.nilFunc, .nilFunc]
  have TH : Hid (U.there w.heap.size 0 2) := QU.out.there
  have R : Hid (Below w.heap.size w (U.setCells w.heap.size 0 [.func (.func 43) #[] #[], .func (.func 44) #[] #[]])) := below_cells (Nat.le_refl _) _ _ _ BU.out
  have RA : Hid ((U.setCells w.heap.size 0 [.func (.func 43) #[] #[], .func (.func 44) #[] #[]]).rangeAt w.heap.size 0 [.func (.func 43) #[] #[], .func (.func 44) #[] #[]]) := World.rangeAt_setCells_same _ _ _ _ TH.out
  go_enter Tryz.func16, Tryz.ntmps16
  go_upto_region 1 with fail
  rw [← hU]
  clear hU
  go_wp2_with (first | (refine wpList_store_mid rfl 56 _ _ rfl w.heap.size 0 #[.func (.func 43) #[] #[], .func (.func 44) #[] #[]] rfl rfl TH.out (by kernel_rfl) (by kernel_rfl) ?_))
  refine bodyPost_ret (results_cell_mid Tryz.results16 _ _ w.heap.size [.func (.func 43) #[] #[], .func (.func 44) #[] #[]] _ rfl RA.out Tryz.underlying56 rfl (by kernel_rfl)) rfl ⟨rfl, R.out⟩
set_option maxHeartbeats 4000000 in
set_option maxRecDepth 100000 in
theorem fieldOf_same (w : World) :
    Calls Tryz.prog 16 #[.int .i32 115] w fun e w' => e = .returned (.agg #[.func (.func 45) #[] #[], .func (.func 46) #[] #[]]) ∧ Below w.heap.size w w' := by
  obtain ⟨U, hU⟩ : ∃ U, U = w.alloc (.cells #[.nilFunc, .nilFunc] 56) := ⟨_, rfl⟩
  have BU : Hid (Below w.heap.size w U) := by rw [hU]; exact (Below.refl _ _).alloc (Nat.le_refl _) _
  have QU : Hid (Blk U w.heap.size [.nilFunc, .nilFunc]) := by rw [hU]; exact blk_new w 56 [.nilFunc, .nilFunc]
  have TH : Hid (U.there w.heap.size 0 2) := QU.out.there
  have R : Hid (Below w.heap.size w (U.setCells w.heap.size 0 [.func (.func 45) #[] #[], .func (.func 46) #[] #[]])) := below_cells (Nat.le_refl _) _ _ _ BU.out
  have RA : Hid ((U.setCells w.heap.size 0 [.func (.func 45) #[] #[], .func (.func 46) #[] #[]]).rangeAt w.heap.size 0 [.func (.func 45) #[] #[], .func (.func 46) #[] #[]]) := World.rangeAt_setCells_same _ _ _ _ TH.out
  go_enter Tryz.func16, Tryz.ntmps16
  go_upto_region 1 with fail
  rw [← hU]
  clear hU
  go_wp2_with (first | (refine wpList_store_mid rfl 56 _ _ rfl w.heap.size 0 #[.func (.func 45) #[] #[], .func (.func 46) #[] #[]] rfl rfl TH.out (by kernel_rfl) (by kernel_rfl) ?_))
  refine bodyPost_ret (results_cell_mid Tryz.results16 _ _ w.heap.size [.func (.func 45) #[] #[], .func (.func 46) #[] #[]] _ rfl RA.out Tryz.underlying56 rfl (by kernel_rfl)) rfl ⟨rfl, R.out⟩
set_option maxHeartbeats 4000000 in
set_option maxRecDepth 100000 in
theorem fieldOf_cmd (w : World) :
    Calls Tryz.prog 16 #[.int .i32 99] w fun e w' => e = .returned (.agg #[.func (.func 47) #[] #[], .func (.func 48) #[] #[]]) ∧ Below w.heap.size w w' := by
  obtain ⟨U, hU⟩ : ∃ U, U = w.alloc (.cells #[.nilFunc, .nilFunc] 56) := ⟨_, rfl⟩
  have BU : Hid (Below w.heap.size w U) := by rw [hU]; exact (Below.refl _ _).alloc (Nat.le_refl _) _
  have QU : Hid (Blk U w.heap.size [.nilFunc, .nilFunc]) := by rw [hU]; exact blk_new w 56 [.nilFunc, .nilFunc]
  have TH : Hid (U.there w.heap.size 0 2) := QU.out.there
  have R : Hid (Below w.heap.size w (U.setCells w.heap.size 0 [.func (.func 47) #[] #[], .func (.func 48) #[] #[]])) := below_cells (Nat.le_refl _) _ _ _ BU.out
  have RA : Hid ((U.setCells w.heap.size 0 [.func (.func 47) #[] #[], .func (.func 48) #[] #[]]).rangeAt w.heap.size 0 [.func (.func 47) #[] #[], .func (.func 48) #[] #[]]) := World.rangeAt_setCells_same _ _ _ _ TH.out
  go_enter Tryz.func16, Tryz.ntmps16
  go_upto_region 1 with fail
  rw [← hU]
  clear hU
  go_wp2_with (first | (refine wpList_store_mid rfl 56 _ _ rfl w.heap.size 0 #[.func (.func 47) #[] #[], .func (.func 48) #[] #[]] rfl rfl TH.out (by kernel_rfl) (by kernel_rfl) ?_))
  refine bodyPost_ret (results_cell_mid Tryz.results16 _ _ w.heap.size [.func (.func 47) #[] #[], .func (.func 48) #[] #[]] _ rfl RA.out Tryz.underlying56 rfl (by kernel_rfl)) rfl ⟨rfl, R.out⟩
set_option maxHeartbeats 4000000 in
set_option maxRecDepth 100000 in
theorem fieldOf_seq (w : World) :
    Calls Tryz.prog 16 #[.int .i32 113] w fun e w' => e = .returned (.agg #[.func (.func 49) #[] #[], .func (.func 50) #[] #[]]) ∧ Below w.heap.size w w' := by
  obtain ⟨U, hU⟩ : ∃ U, U = w.alloc (.cells #[.nilFunc, .nilFunc] 56) := ⟨_, rfl⟩
  have BU : Hid (Below w.heap.size w U) := by rw [hU]; exact (Below.refl _ _).alloc (Nat.le_refl _) _
  have QU : Hid (Blk U w.heap.size [.nilFunc, .nilFunc]) := by rw [hU]; exact blk_new w 56 [.nilFunc, .nilFunc]
  have TH : Hid (U.there w.heap.size 0 2) := QU.out.there
  have R : Hid (Below w.heap.size w (U.setCells w.heap.size 0 [.func (.func 49) #[] #[], .func (.func 50) #[] #[]])) := below_cells (Nat.le_refl _) _ _ _ BU.out
  have RA : Hid ((U.setCells w.heap.size 0 [.func (.func 49) #[] #[], .func (.func 50) #[] #[]]).rangeAt w.heap.size 0 [.func (.func 49) #[] #[], .func (.func 50) #[] #[]]) := World.rangeAt_setCells_same _ _ _ _ TH.out
  go_enter Tryz.func16, Tryz.ntmps16
  go_upto_region 1 with fail
  rw [← hU]
  clear hU
  go_wp2_with (first | (refine wpList_store_mid rfl 56 _ _ rfl w.heap.size 0 #[.func (.func 49) #[] #[], .func (.func 50) #[] #[]] rfl rfl TH.out (by kernel_rfl) (by kernel_rfl) ?_))
  refine bodyPost_ret (results_cell_mid Tryz.results16 _ _ w.heap.size [.func (.func 49) #[] #[], .func (.func 50) #[] #[]] _ rfl RA.out Tryz.underlying56 rfl (by kernel_rfl)) rfl ⟨rfl, R.out⟩
set_option maxHeartbeats 4000000 in
set_option maxRecDepth 100000 in
theorem fieldOf_deps (w : World) :
    Calls Tryz.prog 16 #[.int .i32 100] w fun e w' => e = .returned (.agg #[.func (.func 51) #[] #[], .func (.func 52) #[] #[]]) ∧ Below w.heap.size w w' := by
  obtain ⟨U, hU⟩ : ∃ U, U = w.alloc (.cells #[.nilFunc, .nilFunc] 56) := ⟨_, rfl⟩
  have BU : Hid (Below w.heap.size w U) := by rw [hU]; exact (Below.refl _ _).alloc (Nat.le_refl _) _
  have QU : Hid (Blk U w.heap.size [.nilFunc, .nilFunc]) := by rw [hU]; exact blk_new w 56 [.nilFunc, .nilFunc]
  have TH : Hid (U.there w.heap.size 0 2) := QU.out.there
  have R : Hid (Below w.heap.size w (U.setCells w.heap.size 0 [.func (.func 51) #[] #[], .func (.func 52) #[] #[]])) := below_cells (Nat.le_refl _) _ _ _ BU.out
  have RA : Hid ((U.setCells w.heap.size 0 [.func (.func 51) #[] #[], .func (.func 52) #[] #[]]).rangeAt w.heap.size 0 [.func (.func 51) #[] #[], .func (.func 52) #[] #[]]) := World.rangeAt_setCells_same _ _ _ _ TH.out
  go_enter Tryz.func16, Tryz.ntmps16
  go_upto_region 1 with fail
  rw [← hU]
  clear hU
  go_wp2_with (first | (refine wpList_store_mid rfl 56 _ _ rfl w.heap.size 0 #[.func (.func 51) #[] #[], .func (.func 52) #[] #[]] rfl rfl TH.out (by kernel_rfl) (by kernel_rfl) ?_))
  refine bodyPost_ret (results_cell_mid Tryz.results16 _ _ w.heap.size [.func (.func 51) #[] #[], .func (.func 52) #[] #[]] _ rfl RA.out Tryz.underlying56 rfl (by kernel_rfl)) rfl ⟨rfl, R.out⟩
theorem field_1 (f g : Value) (W : World) : (Instr.field 56 (.agg #[f, g]) 1).run Tryz.prog W = .ok g W := by kernel_rfl
end Go.Proofs.YtlhididcanedhaaGreatDoor
/- The contract of package command's Encode. -/
namespace Go.Proofs.YtlhididcanedhaaGreatDoor
open Go.RowKit Go.Wire1

def encR (v : Int) (c : Cm) : List Int := if chk v c = 0 then encC c else []
end Go.Proofs.YtlhididcanedhaaGreatDoor
/- The contracts of packPlain, packTight and Pack. -/
namespace Go.Proofs.YtlhididcanedhaaGreatDoor
open Go.RowKit Go.Wire1

/-- The array in a block of its own. -/
def ArrAt (w : World) (g : Nat) (l : List Int) : Prop := ∀ k, k < 7 → w.cell? ⟨g, k, none⟩ = some (.int .i64 (l.getD k 0))
theorem ArrAt.below {w w' : World} {g B : Nat} {l : List Int} (h : ArrAt w g l) (hb : Below B w w') (hg : g < B) : ArrAt w' g l := fun k hk => by
  rw [hb.cell (p := ⟨g, k, none⟩) hg]; exact h k hk
end Go.Proofs.YtlhididcanedhaaGreatDoor
/- The contract of Pack. -/
namespace Go.Proofs.YtlhididcanedhaaGreatDoor
open Go.RowKit Go.Wire1

end Go.Proofs.YtlhididcanedhaaGreatDoor
