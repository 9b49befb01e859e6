/- The contract of Drain: what is told of chunks hangs on the joined bytes alone. -/
import Derived.Test.YtiajkdjljilndaaDoorFrDrM
import Derived.Test.YtiajkdjljilndaaDoorFrPos
import Derived.Test.YtiajkdjljilndaaDoorLRows
import Derived.Laws.AppendOwn
namespace Go.Proofs.YtiajkdjljilndaaDoor
open Go.RowKit Go.Wire1 Go.Crc2 Go.Frm

/-- A list of lists of bytes in memory. -/
def Chs (w : World) (ca : Option Addr) (n : Nat) (ls : List (List Int)) : Prop := ls.length = n ∧ n ≤ maxLen ∧ (0 < n → ∃ c off, ca = some ⟨c, off, none⟩ ∧ ∀ j, j < n → ∃ a m cap, w.cell? ⟨c, off + j, none⟩ = some (.slice a m cap) ∧ Seg w a m (ls.getD j []) ∧ m ≤ cap ∧ cap ≤ maxLen ∧ Byt (ls.getD j []))
theorem Chs.below {w w' : World} {B : Nat} {ca : Option Addr} {n : Nat} {ls : List (List Int)} (h : Chs w ca n ls) (hb : Below B w w') (hB : w.heap.size ≤ B) : Chs w' ca n ls := by
  refine ⟨h.1, h.2.1, fun hn => ?_⟩
  obtain ⟨c, off, e, hc⟩ := h.2.2 hn
  refine ⟨c, off, e, fun j hj => ?_⟩
  obtain ⟨a, m, cap, h1, h2, h3⟩ := hc j hj
  exact ⟨a, m, cap, by rw [hb.cell (p := ⟨c, off + j, none⟩) (Nat.lt_of_lt_of_le (cell_lt h1) hB)]; exact h1, h2.below hb hB, h3⟩
/-- The stream and the row of payloads, side by side. -/
structure DJ (w wr : World) (b : Nat) (val : Value) (gs : List PL) (s : Sm) (pv : Value) : Prop where
  str : Str wr b s pv b
  rows : LRows wr (b + 1) val gs
  far : ∀ k, pv.ownBlock = some k → val.ownBlock ≠ some k ∧ ∀ p ∈ gs, p.g ≠ k
  bel : Below b w wr
  apart : Apart gs
theorem DJ.step {w wr w' : World} {b : Nat} {val : Value} {gs : List PL} {s s' : Sm} {pv pv' : Value} (h : DJ w wr b val gs s pv) (k : Stp wr w' b s' pv pv' b) : DJ w w' b val gs s' pv' := by
  refine ⟨k.str, ⟨own_other h.rows.1 (fun j hj => k.tch.block j (h.rows.1.lt j hj).2 (by have := (h.rows.1.lt j hj).1; omega) (fun e => (h.far j e.symm).1 hj)), fun p hp => ?_⟩, fun j hj => ?_, h.bel.trans (k.below h.str), h.apart⟩
  · have hm := h.rows.2 p hp
    have h5 : b + 1 ≤ p.g := hm.2.2.2.2
    exact hm.of_block (k.tch.block p.g (MineP.lt hm) (by omega) (fun e => (h.far p.g e.symm).2 p hp rfl))
  · rcases k.lat with e | e
    · exact h.far j (by rw [← e]; exact hj)
    · have hj2 := e j hj
      refine ⟨fun e2 => ?_, fun p hp e2 => ?_⟩
      · have := (h.rows.1.lt j e2).2; omega
      · have := MineP.lt (h.rows.2 p hp); omega
theorem DJ.drewN {w wr : World} {b : Nat} {val : Value} {gs : List PL} {s : Sm} {pv : Value} (h : DJ w wr b val gs s pv) (q : Nat) : DJ w (wr.drewN q) b val gs s pv :=
  ⟨h.str.drewN q, h.rows.drewN q, h.far, ⟨h.bel.os, h.bel.tape, h.bel.output, h.bel.size, h.bel.block⟩, h.apart⟩
theorem DJ.push {w wr w' : World} {b : Nat} {val v' : Value} {gs : List PL} {s : Sm} {p : PL} {o : Obj} (h : DJ w wr b val gs s (.slice none 0 0)) (hp : MineP wr (b + 1) p) (hq : ∀ q ∈ gs, q.g ≠ p.g)
    (ho : w'.ownsRow (b + 1) 22 1 v' (gs.length + 1) (gs.map plv ++ [plv p])) (hg : (wr.alloc o).grownBy w' val.ownBlock) : DJ w w' b v' (gs ++ [p]) s (.slice none 0 0) := by
  have hgr : wr.grownBy w' val.ownBlock := ⟨hg.os, hg.tape, hg.output, by have := hg.size; rw [World.size_alloc] at this; omega, fun x hx hne => by rw [hg.block x (by rw [World.size_alloc]; omega) hne]; exact Below.heap_alloc wr _ x hx⟩
  have hbb : some b ≠ val.ownBlock := fun e => by have := (h.rows.1.lt b e.symm).1; omega
  refine ⟨⟨h.str.box.of_block (hgr.block b h.str.box.lt hbb), own_other h.str.own (fun k hk => by cases hk), h.str.far, h.str.six, h.str.low, h.str.nil_⟩, h.rows.more hp ho hgr, (fun k hk => by cases hk), ?_, h.apart.more p hq⟩
  exact ⟨hg.os.trans h.bel.os, hg.tape.trans h.bel.tape, hg.output.trans h.bel.output, Nat.le_trans h.bel.size hgr.size, fun x hx => (hgr.block x (Nat.lt_of_lt_of_le hx (Nat.le_trans (Nat.le_of_lt h.str.box.lt) (Nat.le_refl _))) (fun e => by have := (h.rows.1.lt x e.symm).1; omega)).trans (h.bel.block x hx)⟩
theorem mine_row {w : World} {B G : Nat} {l : List Int} (hB : B ≤ G) (hl : l.length ≤ 1048576) (h : w.heap[G]? = some (.cells (l.map (Value.int .u8)).toArray 5 (0, 0))) : MineP w B ⟨G, l.length, l.length, l⟩ :=
  ⟨⟨by simp, .inr ⟨G, l.length, _, rfl, hB, h, Nat.le_refl _, by unfold maxLen; omega, by simp, by rw [Nat.mul_one]; exact List.take_of_length_le (by simp)⟩⟩, rfl, Nat.le_refl _, (show l.length ≤ maxLen by unfold maxLen; omega), hB⟩
theorem feedD (w0 wr : World) (b : Nat) (val : Value) (gs : List PL) (s : Sm) (pv : Value) (v : Nat) (Y X : List Int) (ps : List (List Int)) (sa : Option Addr) (n cap : Nat) (a : Nat → Addr) (J : DJ w0 wr b val gs s pv) (D : Dr v Y ps s) (hs : Seg w0 sa n X) (hnc : n ≤ cap) (hc : cap ≤ maxLen) (hy : Byt X) (en : Env w0 a b) (hb : b = w0.heap.size) :
    Calls Tryd.prog 21 #[.pointer (some ⟨b, 0, none⟩), .slice sa n cap] wr fun r w' => ∃ (k : Nat) (s1 : Sm) (pv1 : Value), r = .returned (.int .i64 (k : Int)) ∧ DJ w0 w' b val gs s1 pv1 ∧ FedD v Y ps s1 X k := by
  rcases D.which with ⟨h, hY, L⟩ | ⟨e, h1, h2, hY, hsb, h3⟩
  · have hsep : ∀ x, sa = some x → 0 < n → x.block ≠ b ∧ some x.block ≠ pv.ownBlock := by
      intro x hx hn
      have h1 := hs.lt hn hx
      exact ⟨by omega, fun e => by have := J.str.ownLow x.block e.symm; omega⟩
    refine (feed_live wr b s pv b v (joinF v ps).length h sa n cap X a J.str L (hs.below J.bel (by omega)) hnc hc hy hsep (en.below J.bel)).mono ?_
    rintro r w' ⟨k, s1, pv1, rfl, F, hk⟩
    exact ⟨k, s1, pv1, rfl, J.step F.stp, fedD_live D.pays hY D.byt hy L J.str F hk (fun hl => fed_pos J.str L F hk hl)⟩
  · have hp6 : s.part = 6 := by rw [hsb]; rfl
    refine (feed_idle wr b s pv b sa n cap J.str (.inr hp6) (Nat.le_trans hnc hc)).mono ?_
    rintro r w' ⟨rfl, rfl⟩
    exact ⟨0, s, pv, rfl, J, Nat.zero_le _, fun _ => D.more hp6 X hy, fun h => by omega⟩
/-- What Drain answers. -/
def DrPost (v : Nat) (Y : List Int) (w : World) (r : Ending) (w' : World) : Prop := ∃ val gs, r = .returned (.tuple #[val, .int .i64 ((drainF (Y.length + 1) v Y).2.1 : Int), .int .i64 ((drainF (Y.length + 1) v Y).2.2 : Int)]) ∧ LRows w' (w.heap.size + 1) val gs ∧ gs.map PL.L = (drainF (Y.length + 1) v Y).1 ∧ Apart gs ∧ Below w.heap.size w w'

set_option maxHeartbeats 2000000 in
set_option maxRecDepth 100000 in
theorem drain_ver (v : Int) (sa : Option Addr) (n cap : Nat) (w : World) (hv : verB v = false) :
    Calls Tryd.prog 9 #[.int .i64 v, .slice sa n cap] w fun r w' => r = .returned (.tuple #[.slice none 0 0, .int .i64 0, .int .i64 2]) ∧ w = w' := by
  go_enter Tryd.func9, Tryd.ntmps9
  go_wp2_with fail
  refine (newStream_no v _ hv).mono ?_
  rintro r w1 ⟨rfl, rfl⟩
  go_wp2
  go_ret3
  exact ⟨rfl, rfl⟩

theorem take_snoc_join {ls : List (List Int)} {i : Nat} (h : i < ls.length) : (ls.take (i + 1)).flatten = (ls.take i).flatten ++ ls.getD i [] := by
  rw [List.take_succ_eq_append_getElem h, List.flatten_append]
  simp [List.getD, List.getElem?_eq_getElem h]
theorem join_le {ls : List (List Int)} (i : Nat) : (ls.take i).flatten.length ≤ ls.flatten.length := by
  have : ls.flatten = (ls.take i).flatten ++ (ls.drop i).flatten := by rw [← List.flatten_append, List.take_append_drop]
  rw [this, List.length_append]; omega
theorem Dr.count {v : Nat} {Y : List Int} {ps : List (List Int)} {s : Sm} (h : Dr v Y ps s) : 8 * ps.length ≤ Y.length ∧ (joinF v ps).length ≤ Y.length := by
  have := joinF_long v ps
  rcases h.which with ⟨x, hY, _⟩ | ⟨e, h1, h2, hY, _⟩
  · rw [hY, List.length_append]; omega
  · rw [hY, List.length_append]; omega

set_option maxHeartbeats 8000000 in
set_option maxRecDepth 100000 in
theorem drain_any (v : Nat) (hv : v ≤ 2) (ca : Option Addr) (cn ccap : Nat) (ls : List (List Int)) (a : Nat → Addr) (w : World) (hs : Chs w ca cn ls) (hup : ls.flatten.length * 3 ≤ 140737488355328) (hH : Hal w) (hE : Errs w a) :
    Calls Tryd.prog 9 #[.int .i64 (v : Int), .slice ca cn ccap] w fun r w' => DrPost v ls.flatten w r w' := by
  obtain ⟨i0, hi, hz0, hz1, hz2⟩ := info_parts infoLL
  have HS := hide hs
  have HUP := hide hup
  have EN0 : Hid (Env w a w.heap.size) := ⟨hH, hE, hE.lt, hE.five⟩
  have hcn : cn ≤ 9223372036854775807 := hs.2.1
  clear hs hH hE hup
  obtain ⟨b, hb⟩ : ∃ b, b = w.heap.size := ⟨_, rfl⟩
  unfold DrPost
  go_enter Tryd.func9, Tryd.ntmps9
  go_wp2_with fail
  refine (newStream_yes v _ hv w.heap.size (Nat.le_refl _)).mono ?_
  rintro r w1 ⟨rfl, S1, hb1, hz1⟩
  rw [← hb] at S1 hb1 hz1 EN0 ⊢
  have HB := hide hb
  have J0 : Hid (DJ w w1 b (.slice none 0 0) [] (fresh v 0) (.slice none 0 0)) := ⟨S1, LRows.nil _ _, (fun k hk => by cases hk), hb1, (fun i j _ hj => by simp at hj)⟩
  clear S1 hb1 hz1 hb
  go_wp2
  go_loopw [8, 23] (fun lv iv wr => ∃ (i : Nat) (gs : List PL) (s : Sm) (pv : Value), iv = .int .i64 (i : Int) ∧ i ≤ cn ∧ Hid (Dr v (ls.take i).flatten (gs.map PL.L) s) ∧ Hid (DJ w wr b lv gs s pv)) (fun _ iv _ => cn - (intOf iv).toNat)
  case atStart => exact ⟨0, [], _, _, rfl, Nat.zero_le _, Dr.fresh v, J0⟩
  case round =>
    obtain ⟨i, gs, s, pv, rfl, hi1, HD, HJ⟩ := hrel
    by_cases hlt : i < cn
    · obtain ⟨cb, co, rfl, hc⟩ := HS.out.2.2 (by omega)
      have hil : i < ls.length := by have := HS.out.1; omega
      obtain ⟨xa, xm, xc, hcell, hseg, hmc, hcm, hbyt⟩ := hc i hlt
      have hcell2 : wr.cell? ⟨cb, co + i, none⟩ = some (.slice xa xm xc) := by rw [HJ.out.bel.cell (p := ⟨cb, co + i, none⟩) (by have h9 := cell_lt hcell; rw [HB.out]; exact h9)]; exact hcell
      have HTS := hide (take_snoc_join hil)
      have HYL : Hid ((ls.take (i + 1)).flatten.length ≤ ls.flatten.length) := join_le (i + 1)
      rw [HTS.out] at HYL
      obtain ⟨X, hX⟩ : ∃ X, ls.getD i [] = X := ⟨_, rfl⟩
      obtain ⟨Y, hY⟩ : ∃ Y, (ls.take i).flatten = Y := ⟨_, rfl⟩
      rw [hX] at hseg hbyt HTS HYL
      rw [hY] at HD HTS HYL
      have HSG := hide hseg
      have HBY := hide hbyt
      clear hc hcell hX hY hseg hbyt hil
      unfold maxLen at hcm
      have hxl : Hid (X.length = xm) := HSG.out.1
      go_wp2_with fail
      refine (feedD w _ b _ gs s pv v Y X _ xa xm xc a HJ.out HD.out HSG.out hmc (by unfold maxLen; omega) HBY.out EN0.out HB.out).mono ?_
      rintro r w2 ⟨k0, s2, pv2, rfl, J2, F2⟩
      have HJ2 := hide J2
      have HF2 := hide F2
      clear J2 F2 HJ HD hcell2
      go_wp2
      go_loopw [8, 10, 11] (fun lv rv kv wq => ∃ (k : Nat) (gs : List PL) (s : Sm) (pv : Value) (ra : Option Addr) (rm rc : Nat) (lr Z : List Int), rv = .slice ra rm rc ∧ kv = .int .i64 (k : Int) ∧ k ≤ rm ∧ rm ≤ rc ∧ rc ≤ 9223372036854775807 ∧ Hid (Seg w ra rm lr) ∧ Hid (Byt lr) ∧ Hid (Z ++ lr = Y ++ X) ∧ Hid (FedD v Z (gs.map PL.L) s lr k) ∧ Hid (DJ w wq b lv gs s pv)) (fun _ rv _ _ => slen rv)
      case atStart => exact ⟨k0, gs, s2, pv2, xa, xm, xc, X, Y, rfl, rfl, by have := HF2.out.le; have := hxl.out; omega, hmc, hcm, HSG, HBY, rfl, HF2, HJ2⟩
      case round =>
        clear HJ2 HF2
        obtain ⟨k, gs, s, pv, ra, rm, rc, lr, Z, rfl, rfl, hk, hrm, hrc, HSR, HYR, HZ, HFD, HJJ⟩ := hrel
        by_cases hk0 : k = 0
        · subst hk0
          have HD2 : Hid (Dr v (ls.take (i + 1)).flatten (gs.map PL.L) s) := by
            have := HFD.out.zero rfl
            rw [HZ.out, ← HTS.out] at this
            exact this
          go_wp2
          go_roundw
          case rel => exact ⟨i + 1, gs, s, pv, by go_num, by omega, HD2, HJJ⟩
          case measure => simp [intOf]; omega
        · obtain ⟨rb, ro, rfl, _⟩ := HSR.out.2.2 (by omega)
          have hlr : Hid (lr.length = rm) := HSR.out.1
          have HZ2 : Hid ((Z ++ lr.take k) ++ lr.drop k = Y ++ X) := by show _ = _; rw [List.append_assoc, List.take_append_drop]; exact HZ.out
          have HYN : Hid (Byt (lr.drop k)) := byt_drop HYR.out k
          have HZL : Hid ((Z ++ lr.take k).length ≤ ls.flatten.length) := by
            have h1 := congrArg List.length HZ2.out
            have h2 := HYL.out
            have h3 : ((Z ++ lr.take k) ++ lr.drop k).length = (Z ++ lr.take k).length + (lr.drop k).length := List.length_append
            have h4 : (Y ++ X).length = (Z ++ lr.take k).length + (lr.drop k).length := by rw [← h1, h3]
            show _ ≤ _
            omega
          rcases HFD.out.pos (by omega) with ⟨hp, D⟩ | ⟨hp, hpl, hver, hplace, D⟩
          · have HD2 := hide D
            clear D HFD HZ
            by_cases hend : rc = k
            · subst hend
              obtain rfl : rm = rc := by omega
              have HSN : Hid (Seg w (some ⟨rb, ro, none⟩) 0 (lr.drop rm)) := by rw [List.drop_eq_nil_of_le (Nat.le_of_eq hlr.out)]; exact seg_empty _ _
              go_wp2_with fail
              refine (take_no _ b s pv b HJJ.out.str hp).mono ?_
              rintro r wC ⟨rfl, rfl⟩
              go_wp2_with fail
              refine (feedD w _ b _ gs s pv v _ (lr.drop rm) _ _ 0 _ a HJJ.out HD2.out HSN.out (Nat.zero_le _) (by unfold maxLen; omega) HYN.out EN0.out HB.out).mono ?_
              rintro r wD ⟨k2, s3, pv3, rfl, J3, F3⟩
              have HJ3 := hide J3
              have HF3 := hide F3
              have hk2 : k2 ≤ 0 := by have := F3.le; rw [List.length_drop, hlr.out] at this; omega
              clear J3 F3
              go_wp2
              go_roundw
              case rel => exact ⟨k2, gs, s3, pv3, _, 0, _, lr.drop rm, _, rfl, rfl, hk2, Nat.zero_le _, by omega, HSN, HYN, HZ2, HF3, HJ3⟩
              case measure => simp [slen]; omega
            · have HSN : Hid (Seg w (some ⟨rb, ro + k, none⟩) (rm - k) (lr.drop k)) := by
                have := HSR.out.cut (k := k) (m := rm - k) (by omega) (fun _ b off e => by cases e; rfl)
                rwa [List.take_of_length_le (by rw [List.length_drop, hlr.out]; exact Nat.le_refl _)] at this
              go_wp2_with fail
              refine (take_no _ b s pv b HJJ.out.str hp).mono ?_
              rintro r wC ⟨rfl, rfl⟩
              go_wp2_with fail
              refine (feedD w _ b _ gs s pv v _ (lr.drop k) _ _ (rm - k) _ a HJJ.out HD2.out HSN.out (by omega) (by unfold maxLen; omega) HYN.out EN0.out HB.out).mono ?_
              rintro r wD ⟨k2, s3, pv3, rfl, J3, F3⟩
              have HJ3 := hide J3
              have HF3 := hide F3
              have hk2 : k2 ≤ rm - k := by have := F3.le; rw [List.length_drop, hlr.out] at this; omega
              clear J3 F3
              go_wp2
              go_roundw
              case rel => exact ⟨k2, gs, s3, pv3, _, rm - k, _, lr.drop k, _, rfl, rfl, hk2, by omega, by omega, HSN, HYN, HZ2, HF3, HJ3⟩
              case measure => simp [slen]; omega
          · have hcnt := D.count
            have HD2 := hide D
            clear D HFD HZ
            have hpb : s.place + s.held ≤ 9223372036854775807 := by
              have h1 := HZL.out; have h2 := HUP.out
              rw [hplace]; omega
            have hgl : (gs.length + 1) * 24 ≤ 140737488355328 := by
              have h1 := HZL.out; have h2 := HUP.out; have h3 := hcnt.1
              rw [List.length_append, List.length_map, List.length_singleton] at h3
              omega
            clear hcnt
            by_cases hend : rc = k
            · subst hend
              obtain rfl : rm = rc := by omega
              have HSN : Hid (Seg w (some ⟨rb, ro, none⟩) 0 (lr.drop rm)) := by rw [List.drop_eq_nil_of_le (Nat.le_of_eq hlr.out)]; exact seg_empty _ _
              go_wp2_with fail
              refine (take_yes _ b s pv b HJJ.out.str hp hpl hpb).mono ?_
              rintro r wC ⟨rfl, hrow, S3⟩
              have JC := HJJ.out.step S3
              rw [hver, hplace] at JC
              have hGq : ∀ q ∈ gs, q.g ≠ wr.heap.size := fun q hq => Nat.ne_of_lt (MineP.lt (HJJ.out.rows.2 q hq))
              have hGb : b + 1 ≤ wr.heap.size := HJJ.out.str.box.lt
              obtain ⟨G, hG⟩ : ∃ G, G = wr.heap.size := ⟨_, rfl⟩
              obtain ⟨pn, hpn⟩ : ∃ pn, pn = s.pay.length := ⟨_, rfl⟩
              rw [← hG] at hrow hGq hGb ⊢
              rw [← hpn] at hpl ⊢
              have hM : MineP wC (b + 1) ⟨G, pn, pn, s.pay⟩ := by rw [hpn]; exact mine_row hGb (by omega) hrow
              have HM := hide hM
              have HGQ : Hid (∀ q ∈ gs, q.g ≠ (PL.mk G pn pn s.pay).g) := hGq
              have HJC := hide JC
              have HL2 : Hid ((gs ++ [PL.mk G pn pn s.pay]).map PL.L = gs.map PL.L ++ [s.pay]) := by show _ = _; simp
              have hbC : b < wC.heap.size := JC.str.box.lt
              rw [← HL2.out] at HD2 HJC
              clear hM hGq JC hrow S3 hG hpn HJJ hpl
              go_wp2_with (first
                | (at_builtin; refine wpList_append_own _ rfl _ _ 24 rfl (b + 1) 22 i0 (.slice none 0 0) 1 24 Tryd.underlying24 hi hz0 hz1 hz2 rfl (by decide) _ _ _ rfl (HJC.out.rows.1.alloc _) ⟨wC.heap.size, 0, none⟩ 1 1 [.slice (some ⟨G, 0, none⟩) pn pn] rfl rfl (cell_one wC _ _) (by intro uu hu; simp at hu; subst hu; rfl) (by unfold maxLen; omega) (by omega) (by simp; omega) ?_))
              intro v' w4 hown' hgrow _
              have HJ4 := hide (HJC.out.push HM.out HGQ.out hown' hgrow)
              clear hown' hgrow HJC HM HGQ
              go_wp2_with fail
              refine (feedD w _ b _ _ _ _ v _ (lr.drop rm) _ _ 0 _ a HJ4.out HD2.out HSN.out (by omega) (by unfold maxLen; omega) HYN.out EN0.out HB.out).mono ?_
              rintro r wD ⟨k2, s3, pv3, rfl, J3, F3⟩
              have HJ3 := hide J3
              have HF3 := hide F3
              have hk2 : k2 ≤ 0 := by have := F3.le; rw [List.length_drop, hlr.out] at this; omega
              clear J3 F3
              go_wp2
              go_roundw
              case rel => exact ⟨k2, _, s3, pv3, _, 0, _, lr.drop rm, _, rfl, rfl, hk2, by omega, by omega, HSN, HYN, HZ2, HF3, HJ3⟩
              case measure => simp [slen]; omega
            · have HSN : Hid (Seg w (some ⟨rb, ro + k, none⟩) (rm - k) (lr.drop k)) := by
                have := HSR.out.cut (k := k) (m := rm - k) (by omega) (fun _ b off e => by cases e; rfl)
                rwa [List.take_of_length_le (by rw [List.length_drop, hlr.out]; exact Nat.le_refl _)] at this
              go_wp2_with fail
              refine (take_yes _ b s pv b HJJ.out.str hp hpl hpb).mono ?_
              rintro r wC ⟨rfl, hrow, S3⟩
              have JC := HJJ.out.step S3
              rw [hver, hplace] at JC
              have hGq : ∀ q ∈ gs, q.g ≠ wr.heap.size := fun q hq => Nat.ne_of_lt (MineP.lt (HJJ.out.rows.2 q hq))
              have hGb : b + 1 ≤ wr.heap.size := HJJ.out.str.box.lt
              obtain ⟨G, hG⟩ : ∃ G, G = wr.heap.size := ⟨_, rfl⟩
              obtain ⟨pn, hpn⟩ : ∃ pn, pn = s.pay.length := ⟨_, rfl⟩
              rw [← hG] at hrow hGq hGb ⊢
              rw [← hpn] at hpl ⊢
              have hM : MineP wC (b + 1) ⟨G, pn, pn, s.pay⟩ := by rw [hpn]; exact mine_row hGb (by omega) hrow
              have HM := hide hM
              have HGQ : Hid (∀ q ∈ gs, q.g ≠ (PL.mk G pn pn s.pay).g) := hGq
              have HJC := hide JC
              have HL2 : Hid ((gs ++ [PL.mk G pn pn s.pay]).map PL.L = gs.map PL.L ++ [s.pay]) := by show _ = _; simp
              have hbC : b < wC.heap.size := JC.str.box.lt
              rw [← HL2.out] at HD2 HJC
              clear hM hGq JC hrow S3 hG hpn HJJ hpl
              go_wp2_with (first
                | (at_builtin; refine wpList_append_own _ rfl _ _ 24 rfl (b + 1) 22 i0 (.slice none 0 0) 1 24 Tryd.underlying24 hi hz0 hz1 hz2 rfl (by decide) _ _ _ rfl (HJC.out.rows.1.alloc _) ⟨wC.heap.size, 0, none⟩ 1 1 [.slice (some ⟨G, 0, none⟩) pn pn] rfl rfl (cell_one wC _ _) (by intro uu hu; simp at hu; subst hu; rfl) (by unfold maxLen; omega) (by omega) (by simp; omega) ?_))
              intro v' w4 hown' hgrow _
              have HJ4 := hide (HJC.out.push HM.out HGQ.out hown' hgrow)
              clear hown' hgrow HJC HM HGQ
              go_wp2_with fail
              refine (feedD w _ b _ _ _ _ v _ (lr.drop k) _ _ (rm - k) _ a HJ4.out HD2.out HSN.out (by omega) (by unfold maxLen; omega) HYN.out EN0.out HB.out).mono ?_
              rintro r wD ⟨k2, s3, pv3, rfl, J3, F3⟩
              have HJ3 := hide J3
              have HF3 := hide F3
              have hk2 : k2 ≤ (rm - k) := by have := F3.le; rw [List.length_drop, hlr.out] at this; omega
              clear J3 F3
              go_wp2
              go_roundw
              case rel => exact ⟨k2, _, s3, pv3, _, (rm - k), _, lr.drop k, _, rfl, rfl, hk2, by omega, by omega, HSN, HYN, HZ2, HF3, HJ3⟩
              case measure => simp [slen]; omega
    · obtain rfl : i = cn := by omega
      have htk : ls.take i = ls := List.take_of_length_le (Nat.le_of_eq HS.out.1)
      rw [htk] at HD
      have hcnt := HD.out.count
      obtain ⟨e1, e2⟩ := HD.out.drained
      have HE1 := hide e1
      have hplb : s.place ≤ 9223372036854775807 := by have := HUP.out; rw [e2]; omega
      clear e1 e2 hcnt htk
      go_wp2_with fail
      refine (state_any _ b s pv b HJ.out.str).mono ?_
      rintro r w2 ⟨rfl, q, rfl⟩
      have HJ2 := hide (HJ.out.drewN q)
      generalize wr.drewN q = w2 at *
      clear HJ
      by_cases hh : 0 < s.held
      · rw [if_pos hh] at HE1
        go_wp2
        go_ret3
        rw [HE1.out]
        exact ⟨_, gs, rfl, by rw [← HB.out]; exact HJ2.out.rows, rfl, HJ2.out.apart, by have := HJ2.out.bel; rw [HB.out] at this; exact this⟩
      · rw [if_neg hh] at HE1
        go_wp2
        go_ret3
        rw [HE1.out]
        exact ⟨_, gs, rfl, by rw [← HB.out]; exact HJ2.out.rows, rfl, HJ2.out.apart, by have := HJ2.out.bel; rw [HB.out] at this; exact this⟩
end Go.Proofs.YtiajkdjljilndaaDoor
