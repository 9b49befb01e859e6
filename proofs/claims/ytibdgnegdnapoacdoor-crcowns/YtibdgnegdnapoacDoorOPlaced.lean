/- The contract of the second part of CrcOwns: lists asked, changed in place, asked again. -/
import Derived.Test.YtibdgnegdnapoacDoorCrc
import Derived.Test.YtibdgnegdnapoacDoorCMath2
import Derived.Test.YtibdgnegdnapoacDoorCUpdS
import Derived.Test.YtibdgnegdnapoacDoorRoomy
import Derived.Test.YtibdgnegdnapoacDoorCSame
import Derived.Test.YtibdgnegdnapoacDoorOFill
import Derived.Test.YtibdgnegdnapoacDoorLArgs
import Derived.Deep.RegionHeld3
import Derived.Deep.QuietTactic
import Derived.BigQuiet
namespace Go.Proofs.YtibdgnegdnapoacDoor
open Go.RowKit Go.Wire1 Go.Crc2

theorem below_drewN3 {B : Nat} {a w : World} (h : Below B a w) (d : Nat) : Below B a (w.drewN d) := ⟨h.os, h.tape, h.output, h.size, h.block⟩
/-- Two rows lie apart. -/
def Sep (v u : Value) : Prop := ∀ g, v.ownBlock = some g → u.ownBlock ≠ some g

theorem turn_at (k : Int) (ln : Nat) (h : 0 < ln) : ∃ (r : Int) (j : Nat), k.tmod (ln : Int) = r ∧ -(ln : Int) < r ∧ r < (ln : Int) ∧ (r + (ln : Int)).tmod (ln : Int) = (j : Int) ∧ j < ln := by
  have h1 : (k.tmod (ln : Int)).natAbs = k.natAbs % ln := by rw [Int.natAbs_tmod]; rfl
  have h2 : k.natAbs % ln < ln := Nat.mod_lt _ h
  have h3 : -(ln : Int) < k.tmod (ln : Int) ∧ k.tmod (ln : Int) < (ln : Int) := by omega
  have h4 : (k.tmod (ln : Int) + (ln : Int)).tmod (ln : Int) = (k.tmod (ln : Int) + (ln : Int)) % (ln : Int) := Int.tmod_eq_emod_of_nonneg (by omega)
  have h5 := Int.emod_nonneg (k.tmod (ln : Int) + (ln : Int)) (show (ln : Int) ≠ 0 by omega)
  have h6 := Int.emod_lt_of_pos (k.tmod (ln : Int) + (ln : Int)) (show (0 : Int) < (ln : Int) by omega)
  exact ⟨_, ((k.tmod (ln : Int) + (ln : Int)) % (ln : Int)).toNat, rfl, h3.1, h3.2, by rw [h4]; omega, by omega⟩
theorem x255 {x : Int} (hx : 0 ≤ x ∧ x < 256) : bits .xor .u8 x 255 = bx x 255 := u8_xor x 255 hx.1 hx.2 (by decide) (by decide)
theorem Hal.grown {w w' : World} {g : Nat} (h : Hal w) (hg : w.grownBy w' (some g)) (hne : 0 ≠ g) : Hal w' := fun i hi => hg.cell (h i hi) (by intro e; injection e with e; exact hne e)

set_option maxHeartbeats 4000000 in
set_option maxRecDepth 100000 in
theorem placed_any (c : R) (a : Option Addr) (n cap : Nat) (ls : List LS) (k : Int) (w : World) (hs : LSeg w a n ls) (hn : n * 24 ≤ 140737488351232) (_hk1 : -9223372036854775808 ≤ k) (_hk2 : k ≤ 9223372036854775807) (hH : Hal w) :
    Calls Tryd.prog 15 #[nr c, .slice a n cap, .int .i64 k] w fun e w' => e = .returned (.bool true) ∧ Below w.heap.size w w' := by
  obtain ⟨i0, hi, hz0, hz1, hz2⟩ := info_parts infoL
  have HH : Hid (Hal w) := hH
  have HS : Hid (LSeg w a n ls) := hs
  clear hH hs
  go_enter Tryd.func15, Tryd.ntmps15
  go_wp2_with fail
  refine (known_any _ HH.out).mono ?_
  rintro e w1 ⟨rfl, hbel⟩
  have HB0 := hide hbel
  clear hbel
  go_wp2_with fail
  go_loopw [7, 8, 9] (fun v u x wr => ∃ (i : Nat) (gs ws : List PL), x = .int .i64 (i : Int) ∧ i ≤ n ∧ Hid (LRows wr w.heap.size v gs) ∧ Hid (LRows wr w.heap.size u ws) ∧ Hid (gs.length = i) ∧ Hid (ws.length = i) ∧ Hid (∀ t, t < i → (gs.getD t plZ).L = (ws.getD t plZ).L) ∧ Hid (Sep v u) ∧ Hid (Below w.heap.size w wr)) (fun _ _ x _ => n - (intOf x).toNat)
  case atStart => exact ⟨0, [], [], rfl, by omega, LRows.nil _ _, LRows.nil _ _, rfl, rfl, (fun t ht => absurd ht (Nat.not_lt_zero _)), (fun g hg => by cases hg), HB0⟩
  case round =>
    clear HB0
    obtain ⟨i, gs, ws, rfl, hi1, HG, HU, HGN, HUN, HE, HSP, HW⟩ := hrel
    have hsz := HW.out.size
    obtain ⟨ga, gc, rfl⟩ := HG.out.shape
    obtain ⟨ua, uc, rfl⟩ := HU.out.shape
    rw [HGN.out] at HG HSP ⊢
    rw [HUN.out] at HU HSP ⊢
    by_cases hlt : i < n
    · have hls := HS.out.below HW.out (Nat.le_refl _)
      obtain ⟨sb, so, rfl, hc⟩ := hls.2.2.1 (by omega)
      have c0 := hc i hlt
      obtain ⟨hseg, hbyt, hcap, hreach⟩ := hls.2.2.2 i hlt
      clear hc hls
      generalize ls.getD i lsZ = o at *
      obtain ⟨la, ln, lc, ll⟩ := o
      simp only at c0 hseg hbyt hcap hreach
      have HSG := hide hseg
      have HBY := hide hbyt
      have hll : Hid (ll.length = ln) := hseg.1
      clear hseg hbyt
      go_wp2_with fail
      refine (roomy_any la ln lc ll _ HSG.out (by omega)).mono ?_
      rintro e w2 ⟨v2, rfl, hown, hb2⟩
      have hlen3 : (ll ++ [11, 12, 13]).length = ln + 3 := by rw [List.length_append, hll.out]; rfl
      rw [hlen3] at hown
      clear hlen3
      obtain ⟨g, mc, rfl⟩ := own_some hown (by omega)
      have HM2 : Hid (Mine w2 wr.heap.size g (ln + 3) mc (ll ++ [11, 12, 13])) := by
        refine ⟨hown, by rw [List.length_append, hll.out]; rfl, ?_⟩
        rcases hown.2 with ⟨h, _⟩ | ⟨g', cap', cur, h3, h4, h5, h6, h7, _⟩
        · cases h
        · injection h3 with h7' h8 h9
          injection h7' with h7'
          injection h7' with h7'
          subst h7' h9
          exact ⟨h6, h7, h4⟩
      have HBM : Hid (Byt (ll ++ [11, 12, 13])) := byt_app HBY.out (fun z hz => by simp at hz; omega)
      have c0' : w2.cell? ⟨sb, so + i, none⟩ = some (.slice la ln lc) := by
        rw [hb2.cell (p := ⟨sb, so + i, none⟩) (cell_lt c0)]; exact c0
      have HG2 := hide (HG.out.below hb2 (Nat.le_refl _))
      have HU2 := hide (HU.out.below hb2 (Nat.le_refl _))
      have HW2 := hide (HW.out.trans (hb2.mono hsz))
      have HGL : Hid (∀ p ∈ gs, p.g ≠ g) := fun p hp => by have := MineP.lt (HG.out.2 p hp); have := HM2.out.2.2.2.2; omega
      have HUL : Hid (∀ p ∈ ws, p.g ≠ g) := fun p hp => by have := MineP.lt (HU.out.2 p hp); have := HM2.out.2.2.2.2; omega
      clear hown hb2 c0 HG HU HW HSG HBY
      generalize ll ++ [11, 12, 13] = M0 at *
      go_wp2_with fail
      go_loopw [12] (fun x wr => ∃ (q : Nat) (M : List Int), x = .int .i64 (q : Int) ∧ q ≤ 2 ∧ Hid (Mine wr w.heap.size g (ln + 3) mc M) ∧ Hid (Byt M) ∧ Hid (w2.grownBy wr (some g)) ∧ Hid (Hal wr)) (fun x _ => 2 - (intOf x).toNat)
      case atStart => exact ⟨0, M0, rfl, by omega, ⟨own_base HM2.out.1 hsz, HM2.out.2.1, HM2.out.2.2.1, HM2.out.2.2.2.1, Nat.le_trans hsz HM2.out.2.2.2.2⟩, HBM, grown_refl _ _, HH.out.later HW2.out⟩
      case round =>
        clear HBM
        obtain ⟨q, M, rfl, hq, HM, HBM, HGR, HHR⟩ := hrel
        by_cases hq2 : q < 2
        · have HSG : Hid (Seg wr (some ⟨g, 0, none⟩) ln (M.take ln)) := HM.out.seg.take (by omega)
          have HBT : Hid (Byt (M.take ln)) := byt_take HBM.out _
          have hmc := HM.out.2.2.1
          obtain ⟨T, hT⟩ : ∃ T, Hid (M.take ln = T) := ⟨_, hide rfl⟩
          rw [hT.out] at HSG HBT
          obtain ⟨x1, hx1⟩ : ∃ x, Hid (upd 0#32 T = x) := ⟨_, hide rfl⟩
          obtain ⟨x2, hx2⟩ : ∃ x, Hid (upd c T = x) := ⟨_, hide rfl⟩
          go_wp2_with fail
          refine (sum_any _ ln _ T _ HSG.out HBT.out HHR.out).mono ?_
          rintro e w3 ⟨rfl, rfl⟩
          rw [hx1.out]
          go_wp2_with fail
          refine (rsum_any _ ln _ T _ HSG.out HBT.out).mono ?_
          rintro e w3 ⟨rfl, rfl⟩
          rw [hx1.out]
          go_wp2_with fail
          refine (update_any c _ ln _ T _ HSG.out HBT.out HHR.out).mono ?_
          rintro e w3 ⟨rfl, rfl⟩
          rw [hx2.out]
          go_wp2_with fail
          refine (rupdate_any c _ ln _ T _ HSG.out HBT.out).mono ?_
          rintro e w3 ⟨rfl, rfl⟩
          rw [hx2.out]
          by_cases hl0 : 0 < ln
          · by_cases hq0 : q = 0
            · have hqq : ((q : Int) == 0) = true := by simp; omega
              obtain ⟨r0, jn, er, hr1, hr2, ej, hjn⟩ := turn_at k ln hl0
              have cj : w3.cell? ⟨g, jn, none⟩ = some (.int .u8 (M.getD jn 0)) := by
                obtain ⟨b', o', e', hc'⟩ := HM.out.seg.2.2 (by omega)
                cases e'
                have := hc' jn (by omega)
                rwa [Nat.zero_add] at this
              have fj := HM.out.1.frozenAt jn
              have hz := byt_at HBM.out jn
              have ex := x255 hz
              have HM1 : Hid (Mine (w3.setCell ⟨g, jn, none⟩ (.int .u8 (bx (M.getD jn 0) 255))) w.heap.size g (ln + 3) mc (M.set jn (bx (M.getD jn 0) 255))) := HM.out.store jn _
              have HB1 : Hid (Byt (M.set jn (bx (M.getD jn 0) 255))) := byt_set HBM.out jn (bx_byt hz (by decide))
              have HG1 : Hid (w2.grownBy (w3.setCell ⟨g, jn, none⟩ (.int .u8 (bx (M.getD jn 0) 255))) (some g)) := grown_put HGR.out jn _
              have HH1 : Hid (Hal (w3.setCell ⟨g, jn, none⟩ (.int .u8 (bx (M.getD jn 0) 255)))) := HHR.out.set (by have := HM2.out.2.2.2.2; have := HH.out.lt; omega)
              clear HM HBM HGR HHR HSG HBT hx1 hx2 hT hq0
              generalize M.set jn (bx (M.getD jn 0) 255) = M1 at *
              generalize M.getD jn 0 = zj at *
              generalize bx zj 255 = yj at *
              go_wp2
              go_roundw
              case rel => exact ⟨q + 1, M1, by go_num, by omega, HM1, HB1, HG1, HH1⟩
              case measure => simp [intOf]; omega
            · have hqq : ((q : Int) == 0) = false := by simp; omega
              go_wp2
              go_roundw
              case rel => exact ⟨q + 1, M, by go_num, by omega, HM, HBM, HGR, HHR⟩
              case measure => simp [intOf]; omega
          · go_wp2
            go_roundw
            case rel => exact ⟨q + 1, M, by go_num, by omega, HM, HBM, HGR, HHR⟩
            case measure => simp [intOf]; omega
        · have HG3 : Hid (LRows wr w.heap.size (.slice ga i gc) gs) := HG2.out.kept HGR.out (fun x hx e => by
            injection e with e
            subst e
            exact mine_apart (p := ⟨x, ln + 3, mc, M0⟩) HM2.out HG2.out.1 hx.symm) (fun p hp e => by injection e with e; exact HGL.out p hp e)
          have HU3 : Hid (LRows wr w.heap.size (.slice ua i uc) ws) := HU2.out.kept HGR.out (fun x hx e => by
            injection e with e
            subst e
            exact mine_apart (p := ⟨x, ln + 3, mc, M0⟩) HM2.out HU2.out.1 hx.symm) (fun p hp e => by injection e with e; exact HUL.out p hp e)
          have HW3 : Hid (Below w.heap.size w wr) := Below.grown HW2.out HGR.out HW2.out.size (fun x hx => by
            injection hx with hx
            subst hx
            exact HM.out.2.2.2.2)
          clear HG2 HU2 HW2 HGR HHR HM2 HGL HUL c0'
          have hsz3 := HW3.out.size
          have HOA := hide (HG3.out.1.alloc (.cells #[.slice (some ⟨g, 0, none⟩) (ln + 3) mc] 30))
          rw [HGN.out] at HOA
          go_wp2_with (first
            | (at_builtin; refine wpList_append_own2 rfl _ _ 36 rfl w.heap.size 30 i0 (.slice none 0 0) 1 24 Tryd.underlying36 hi hz0 hz1 hz2 rfl (by decide) _ _ _ rfl HOA.out ⟨wr.heap.size, 0, none⟩ 1 1 [.slice (some ⟨g, 0, none⟩) (ln + 3) mc] rfl rfl ?c1 ?c2 (by omega) ?c3 ?c4 ?c5 ?_))
          case c1 =>
            intro j u hj
            match j, hj with
            | 0, hj => simp at hj; subst hj; simp [Addr.add]
          case c2 => intro u hu; simp at hu; subst hu; rfl
          case c3 => unfold maxLen; omega
          case c4 => omega
          case c5 => simp; omega
          intro v4 w4 hown' hgrow hat
          have hgr : wr.grownBy w4 (Value.ownBlock (.slice ga i gc)) := ⟨hgrow.os, hgrow.tape, hgrow.output, by have := hgrow.size; simp at this; omega, fun x hx hne => by rw [hgrow.block x (by simp; omega) hne]; exact Below.heap_alloc wr _ x hx⟩
          have HG4 : Hid (LRows w4 w.heap.size v4 (gs ++ [⟨g, ln + 3, mc, M⟩])) := by
            refine LRows.more HG3.out (p := ⟨g, ln + 3, mc, M⟩) HM.out ?_ hgr
            rw [HGN.out]; exact hown'
          have HU4 : Hid (LRows w4 w.heap.size (.slice ua i uc) ws) := HU3.out.kept hgr (fun x hx e => HSP.out x e.symm hx) (fun p hp => mine_apart (HU3.out.2 p hp) HG3.out.1)
          have HM4 : Hid (Mine w4 w.heap.size g (ln + 3) mc M) := by
            have hp : MineP wr w.heap.size ⟨g, ln + 3, mc, M⟩ := HM.out
            exact Mine.of_block HM.out (hgr.block _ hp.lt (mine_apart hp HG3.out.1))
          have HW4 : Hid (Below w.heap.size w w4) := Below.grown HW3.out hgr hsz3 (fun x hx => (HG3.out.1.lt x hx).1)
          have HSP4 : Hid (Sep v4 (.slice ua i uc)) := fun x hx e => by
            rcases hat with h | h
            · rw [h] at hx; exact HSP.out x hx e
            · rw [h] at hx
              injection hx with hx
              have := (HU3.out.1.lt x e).2
              try simp at hx
              omega
          have HGN4 : Hid ((gs ++ [(⟨g, ln + 3, mc, M⟩ : PL)]).length = i + 1) := by show _ = _; rw [List.length_append, HGN.out]; rfl
          clear HOA hown' hgrow hat hgr HG3 HU3 HW3 HM hsz3
          obtain ⟨a4, c4, rfl⟩ := HG4.out.shape
          rw [HGN4.out] at HG4 HSP4 ⊢
          have hsz4 := HW4.out.size
          go_wp2_with fail
          refine (bytes_any _ (ln + 3) mc M _ HM4.out.seg (by omega)).mono ?_
          rintro e w5 ⟨v5, rfl, hown5, hb5⟩
          rw [HM4.out.2.1] at hown5
          obtain ⟨g5, c5, rfl⟩ := own_some hown5 (by omega)
          have HM5 : Hid (Mine w5 w.heap.size g5 (ln + 3) c5 M) := by
            refine ⟨own_base hown5 hsz4, HM4.out.2.1, ?_⟩
            rcases hown5.2 with ⟨h, _⟩ | ⟨g', cap', cur, h3, h4, h5, h6, h7, _⟩
            · cases h
            · injection h3 with h7' h8 h9
              injection h7' with h7'
              injection h7' with h7'
              subst h7' h9
              exact ⟨h6, h7, Nat.le_trans hsz4 h4⟩
          have HG5 := hide (HG4.out.below hb5 (Nat.le_refl _))
          have HU5 := hide (HU4.out.below hb5 (Nat.le_refl _))
          have HW5 := hide (HW4.out.trans (hb5.mono hsz4))
          clear hown5 hb5 HG4 HU4 HW4 HM4 hsz4
          have hsz5 := HW5.out.size
          have HOA := hide (HU5.out.1.alloc (.cells #[.slice (some ⟨g5, 0, none⟩) (ln + 3) c5] 30))
          rw [HUN.out] at HOA
          go_wp2_with (first
            | (at_builtin; refine wpList_append_own2 rfl _ _ 36 rfl w.heap.size 30 i0 (.slice none 0 0) 1 24 Tryd.underlying36 hi hz0 hz1 hz2 rfl (by decide) _ _ _ rfl HOA.out ⟨w5.heap.size, 0, none⟩ 1 1 [.slice (some ⟨g5, 0, none⟩) (ln + 3) c5] rfl rfl ?c1 ?c2 (by omega) ?c3 ?c4 ?c5 ?_))
          case c1 =>
            intro j u hj
            match j, hj with
            | 0, hj => simp at hj; subst hj; simp [Addr.add]
          case c2 => intro u hu; simp at hu; subst hu; rfl
          case c3 => unfold maxLen; omega
          case c4 => omega
          case c5 => simp; omega
          intro v6 w6 hown' hgrow hat
          have hgr : w5.grownBy w6 (Value.ownBlock (.slice ua i uc)) := ⟨hgrow.os, hgrow.tape, hgrow.output, by have := hgrow.size; simp at this; omega, fun x hx hne => by rw [hgrow.block x (by simp; omega) hne]; exact Below.heap_alloc w5 _ x hx⟩
          have HU6 : Hid (LRows w6 w.heap.size v6 (ws ++ [⟨g5, ln + 3, c5, M⟩])) := by
            refine LRows.more HU5.out (p := ⟨g5, ln + 3, c5, M⟩) HM5.out ?_ hgr
            rw [HUN.out]; exact hown'
          have HG6 : Hid (LRows w6 w.heap.size (.slice a4 (i + 1) c4) (gs ++ [⟨g, ln + 3, mc, M⟩])) := HG5.out.kept hgr (fun x hx e => HSP4.out x hx e.symm) (fun p hp => mine_apart (HG5.out.2 p hp) HU5.out.1)
          have HW6 : Hid (Below w.heap.size w w6) := Below.grown HW5.out hgr hsz5 (fun x hx => (HU5.out.1.lt x hx).1)
          have HSP6 : Hid (Sep (.slice a4 (i + 1) c4) v6) := fun x hx e => by
            rcases hat with h | h
            · rw [h] at e; exact HSP4.out x hx e
            · rw [h] at e
              injection e with e
              have := (HG5.out.1.lt x hx).2
              try simp at e
              omega
          have HUN6 : Hid ((ws ++ [(⟨g5, ln + 3, c5, M⟩ : PL)]).length = i + 1) := by show _ = _; rw [List.length_append, HUN.out]; rfl
          have HE6 : Hid (∀ t, t < i + 1 → ((gs ++ [(⟨g, ln + 3, mc, M⟩ : PL)]).getD t plZ).L = ((ws ++ [(⟨g5, ln + 3, c5, M⟩ : PL)]).getD t plZ).L) := fun t ht => by
            have h1 := HGN.out
            have h2 := HUN.out
            by_cases e : t < i
            · have he := HE.out t e
              rw [List.getD, List.getD] at he
              rw [List.getD, List.getD, List.getElem?_append_left (by omega), List.getElem?_append_left (by omega)]; exact he
            · rw [List.getD, List.getD, List.getElem?_append_right (by omega), List.getElem?_append_right (by omega), show t - gs.length = 0 by omega, show t - ws.length = 0 by omega]; rfl
          clear HOA hown' hgrow hat hgr HG5 HU5 HW5 HM5 hsz5 HE HGN HUN
          generalize gs ++ [(⟨g, ln + 3, mc, M⟩ : PL)] = gs1 at *
          generalize ws ++ [(⟨g5, ln + 3, c5, M⟩ : PL)] = ws1 at *
          go_wp2
          go_roundw
          case rel => exact ⟨i + 1, gs1, ws1, by go_num, by omega, HG6, HU6, HGN4, HUN6, HE6, HSP6, HW6⟩
          case measure => simp [intOf]; omega
    · obtain ⟨w5, hw5⟩ : ∃ w5, Hid (wr = w5) := ⟨_, hide rfl⟩
      rw [hw5.out] at HG HU HW ⊢
      clear hw5 hsz
      go_wp2_with fail
      go_loopw [18] (fun x wr => ∃ (t d : Nat), x = .int .i64 (t : Int) ∧ t ≤ i ∧ wr = w5.drewN d) (fun x _ => i - (intOf x).toNat)
      case atStart => exact ⟨0, 0, rfl, by omega, rfl⟩
      case round =>
        obtain ⟨t, d, rfl, ht, rfl⟩ := hrel
        by_cases htl : t < i
        · obtain ⟨gb, rfl, cj, hmj⟩ := (HG.out.drewN d).at (i := t) (by rw [HGN.out]; exact htl)
          obtain ⟨ub, rfl, ck, hmk⟩ := (HU.out.drewN d).at (i := t) (by rw [HUN.out]; exact htl)
          have hLL := HE.out t htl
          generalize gs.getD t plZ = P at *
          generalize ws.getD t plZ = Q at *
          obtain ⟨pg, pn, pcap, pL⟩ := P
          obtain ⟨qg, qn, qcap, qL⟩ := Q
          simp only at hLL
          subst hLL
          have cj' : (w5.drewN d).cell? ⟨gb, t, none⟩ = some (.slice (some ⟨pg, 0, none⟩) pn pcap) := cj
          have ck' : (w5.drewN d).cell? ⟨ub, t, none⟩ = some (.slice (some ⟨qg, 0, none⟩) qn qcap) := ck
          have HMJ : Hid (Seg (w5.drewN d) (some ⟨pg, 0, none⟩) pn pL) := hmj.seg
          have HMK : Hid (Seg (w5.drewN d) (some ⟨qg, 0, none⟩) qn pL) := hmk.seg
          clear cj ck hmj hmk
          obtain ⟨V, hV⟩ : ∃ V, Hid (w5.drewN d = V) := ⟨_, hide rfl⟩
          rw [hV.out] at cj' ck' HMJ HMK ⊢
          have i1 : (0 : Int) ≤ (t : Int) := by omega
          have i2 : (t : Int) < (i : Int) := by omega
          go_wp2_with fail
          go_region_held3 (fun w' => w'.cell? ⟨gb, t, none⟩ = some (.slice (some ⟨pg, 0, none⟩) pn pcap) ∧ w'.cell? ⟨ub, t, none⟩ = some (.slice (some ⟨qg, 0, none⟩) qn qcap)) (go_keep) ((go_at_call 11; refine (same_any _ _ pn qn pcap qcap pL pL _ (by exact HMJ.out) (by exact HMK.out)).mono ?_; rintro e w7 ⟨rfl, z, rfl⟩; rw [same_yes rfl]))
          go_wp2
          go_roundw
          case rel => exact ⟨t + 1, d + (1 + z), by go_num, by omega, by rw [← hV.out]; simp [World.drewN, Nat.add_assoc]⟩
          case measure => simp [intOf]; omega
        · have HWD := hide (below_drewN3 HW.out d)
          go_wp2
          go_ret
          exact ⟨rfl, HWD.out⟩
end Go.Proofs.YtibdgnegdnapoacDoor
