/- The statements' own covered, at the union of all. -/
import Derived.Test.YtakkfdfaacdnmaaQUniM
import Derived.Test.YtakkfdfaacdnmaaQInts
namespace Go.Proofs.Ytakkfdfaacdnmaa
open Go.RowKit Go.Wire1

theorem union_one {n : Nat} (hn : 1 ≤ n ∧ n ≤ 7) {l : List Int} (hl : Gd n l) : unionL [l] = l := by
  rw [union_good hn (by simp) (fun x hx => by simp only [List.mem_singleton] at hx; rw [hx]; exact hl)]
  conv => rhs; rw [list_rowOf l]
  rw [hl.1]
  refine rowOf_congr fun q hq => ?_
  obtain ⟨h1, h2⟩ := maxAt_mem (L := [l]) (n := n) (fun x hx => by simp only [List.mem_singleton] at hx; rw [hx]; exact hl.1) hq
  have h3 := h1 l (by simp)
  have h4 := okL_at hl.2 q
  rcases h2 with h2 | ⟨x, hx, e⟩
  · omega
  · simp only [List.mem_singleton] at hx; rw [← e, hx]
theorem covers_yes (a b : Option Addr) (n m cap cap' : Nat) (xs ys : List Int) (w : World) (ha : SegI w a n xs) (hb : SegI w b m ys) (hc : coversB xs ys = true) :
    Calls Try.prog 43 #[.slice a n cap, .slice b m cap'] w fun e w' => e = .returned (.bool true) ∧ ∃ q, w' = w.drewN q := (covers_any a b n m cap cap' xs ys w ha hb).mono fun _ _ ⟨h1, h2⟩ => ⟨by rw [h1, hc], h2⟩
set_option maxHeartbeats 8000000 in
set_option maxRecDepth 100000 in
theorem covered_any (S : Int) (da : Option Addr) (dn dc : Nat) (seq : Int) (a : Option Addr) (k c : Nat) (l : List Int) (va : Option Addr) (N vc : Nat) (vs : List Vt) (n : Nat) (w : World) (hn : 1 ≤ n ∧ n ≤ 7) (hl : Gd n l) (hg : ∀ v ∈ vs, Gd n v.deps)
    (hS : S = uSeq seq vs) (hd : SegI w da dn (unionL (l :: vs.map (·.deps)))) (h : SegI w a k l) (hv : VRow w va N vs) :
    Calls Try.prog 16 #[.agg #[.int .i64 S, .slice da dn dc], .agg #[.int .i64 seq, .slice a k c], .slice va N vc] w fun e w' => e = .returned (.bool true) ∧ Below w.heap.size w w' := by
  have hall : ∀ x ∈ l :: vs.map (·.deps), Gd n x := fun x hx => by
    rcases List.mem_cons.1 hx with rfl | hx
    · exact hl
    · obtain ⟨v, hv, rfl⟩ := List.mem_map.1 hx; exact hg v hv
  have HC0 : Hid (coversB (unionL (l :: vs.map (·.deps))) l = true) := union_covers hn hall (List.mem_cons_self ..)
  have HCV : Hid (∀ v ∈ vs, coversB (unionL (l :: vs.map (·.deps))) v.deps = true) := fun v hv => union_covers hn hall (List.mem_cons_of_mem _ (List.mem_map_of_mem hv))
  have hse := uSeq_mem seq vs
  rw [← hS] at hse
  have hS0 : seq ≤ S := hse.1.1
  have HSV : Hid (∀ v ∈ vs, v.seq ≤ S) := hse.1.2
  have HSQ : Hid (S = uSeq seq vs) := hS
  have HU1 : Hid (unionL [l] = l) := union_one hn hl
  have HUS : Hid (∀ q v, vs[q]? = some v → unionL [unionL (l :: (vs.take q).map (·.deps)), v.deps] = unionL (l :: (vs.take (q + 1)).map (·.deps))) := fun q v hq => by
    rw [take_map_succ hq]
    exact union_step hn hl (fun x hx => by obtain ⟨u, hu, rfl⟩ := List.mem_map.1 hx; exact hg u (List.mem_of_mem_take hu)) (hg v (List.mem_of_getElem? hq))
  obtain ⟨U, hU⟩ : ∃ U, U = (w.alloc (.cells #[.int .i64 S, .slice da dn dc] 38)).alloc (.cells #[.int .i64 seq, .slice a k c] 38) := ⟨_, rfl⟩
  have BU : Hid (Below w.heap.size w U) := by rw [hU]; exact ((Below.refl _ w).alloc (Nat.le_refl _) _).alloc (by simp) _
  have QA : Hid (Blk U w.heap.size [.int .i64 S, .slice da dn dc]) := by rw [hU]; exact (blk_new w 38 [.int .i64 S, .slice da dn dc]).on ((Below.refl _ _).alloc (Nat.le_refl _) _)
  have QB : Hid (Blk U (w.heap.size + 1) [.int .i64 seq, .slice a k c]) := by
    have := blk_new (w.alloc (.cells [.int .i64 S, .slice da dn dc].toArray 38)) 38 [.int .i64 seq, .slice a k c]
    rw [World.size_alloc] at this
    rw [hU]; exact this
  have HD : Hid (SegI U da dn (unionL (l :: vs.map (·.deps)))) := hd.below BU.out (Nat.le_refl _)
  have HL : Hid (SegI U a k l) := h.below BU.out (Nat.le_refl _)
  have HV : Hid (VRow U va N vs) := hv.below BU.out (Nat.le_refl _)
  have HN : Hid (vs.length = N) := hv.len
  have htop := hv.top
  have q0 : U.cell? ⟨w.heap.size, 0, none⟩ = some (.int .i64 S) := QA.out.cell 0 _ rfl
  have q1 : U.cell? ⟨w.heap.size, 1, none⟩ = some (.slice da dn dc) := QA.out.cell 1 _ rfl
  have p0 : U.cell? ⟨w.heap.size + 1, 0, none⟩ = some (.int .i64 seq) := QB.out.cell 0 _ rfl
  have p1 : U.cell? ⟨w.heap.size + 1, 1, none⟩ = some (.slice a k c) := QB.out.cell 1 _ rfl
  have HFL : Hid (Fit l) := h.2.2.2
  have hk7 : k * 8 ≤ 140737488355328 := by have h1 := h.1; have h2 := hl.1; omega
  clear hn hl hg hS hd h hv hall hse
  go_enter Try.func16, Try.ntmps16
  go_upto_region 1 with fail
  rw [← hU]
  clear hU
  go_wp2_with fail
  refine (covers_yes _ _ _ _ _ _ _ _ _ HD.out HL.out HC0.out).mono ?_
  rintro e w1 ⟨rfl, d1, rfl⟩
  go_wp2_with fail
  refine (ints_any _ _ _ _ _ (HL.out.drewN _) hk7).mono ?_
  rintro e w2 ⟨v2, rfl, ho2, hb2⟩
  obtain ⟨ua, uc, rfl, huc, hu2⟩ := own_segI ho2 HFL.out
  have B2 : Hid (Below U.heap.size U w2) := (below_drewN (Below.refl _ _) d1).trans hb2
  have HU2 : Hid (SegI w2 ua l.length (unionL (l :: (vs.take 0).map (·.deps)))) := by show SegI _ _ _ _; rw [List.take_zero, List.map_nil, HU1.out]; exact hu2
  have r0 : w2.cell? ⟨w.heap.size + 1, 0, none⟩ = some (.int .i64 seq) := (QB.out.on B2.out).cell 0 _ rfl
  clear ho2 hb2 hu2 q0 q1 p0 p1
  go_wp2
  go_loopw [8, 9, 10] (fun x y i wr => ∃ (q : Nat) (ta : Option Addr) (tn tc : Nat), i = .int .i64 (q : Int) ∧ q ≤ N ∧ x = .slice ta tn tc ∧ y = .int .i64 (uSeq seq (vs.take q)) ∧ Hid (SegI wr ta tn (unionL (l :: (vs.take q).map (·.deps)))) ∧ Hid (Below U.heap.size U wr)) (fun _ _ i _ => N - (intOf i).toNat)
  case atStart => exact ⟨0, ua, _, uc, rfl, Nat.zero_le _, rfl, rfl, HU2, B2⟩
  case round =>
    obtain ⟨q, ta, tn, tc, rfl, hq, hx, hy, HT, HB⟩ := hrel
    subst hx hy
    have HVR : Hid (VRow wr va N vs) := HV.out.below HB.out (Nat.le_refl _)
    have HDR : Hid (SegI wr da dn (unionL (l :: vs.map (·.deps)))) := HD.out.below HB.out (Nat.le_refl _)
    have HQA : Hid (Blk wr w.heap.size [.int .i64 S, .slice da dn dc]) := QA.out.on HB.out
    have q0 : wr.cell? ⟨w.heap.size, 0, none⟩ = some (.int .i64 S) := HQA.out.cell 0 _ rfl
    have q1 : wr.cell? ⟨w.heap.size, 1, none⟩ = some (.slice da dn dc) := HQA.out.cell 1 _ rfl
    by_cases hlt : q < N
    · obtain ⟨b, off, rfl, hat⟩ := HVR.out.frAt (by omega)
      obtain ⟨v, hkv⟩ : ∃ v, vs[q]? = some v := ⟨_, List.getElem?_eq_getElem (by have := HN.out; omega)⟩
      have HVO : Hid (Vok wr v) := HVR.out.ok v (List.mem_of_getElem? hkv)
      have HVS : Hid (SegI wr v.da v.dn v.deps) := HVO.out.seg
      have HCO : Hid (coversB (unionL (l :: vs.map (·.deps))) v.deps = true) := HCV.out v (List.mem_of_getElem? hkv)
      have hsv : v.seq ≤ S := HSV.out v (List.mem_of_getElem? hkv)
      have HUQ : Hid (unionL [unionL (l :: (vs.take q).map (·.deps)), v.deps] = unionL (l :: (vs.take (q + 1)).map (·.deps))) := HUS.out q v hkv
      have HSN : Hid (uSeq seq (vs.take (q + 1)) = max (uSeq seq (vs.take q)) v.seq) := by show _ = _; rw [List.take_add_one, hkv]; exact uSeq_snoc _ _ _
      have hrg := hat q v hkv
      have c13 : wr.cell? ⟨b, off + q * 15 + 13, none⟩ = some (.int .i64 v.seq) := hrg 13 _ rfl
      have c14 : wr.cell? ⟨b, off + q * 15 + 14, none⟩ = some (.slice v.da v.dn v.dc) := hrg 14 _ rfl
      clear hat hrg hkv
      generalize unionL (l :: (vs.take q).map (·.deps)) = tl at *
      generalize uSeq seq (vs.take q) = sq at *
      go_wp2
      go_quiet ((go_at_call 43; exact Calls.quiet_of (covers_yes _ _ _ _ _ _ _ _ _ (HDR.out.drewN _) (HVS.out.drewN _) HCO.out)))
      go_wp2
      go_quiet (fail)
      go_wp2_with fail
      refine (union_any _ _ _ [⟨ta, tn, tc, tl⟩, ⟨v.da, v.dn, v.dc, v.deps⟩] _ (segL_lit _ (by unfold maxLen; simp) (fun s hs => by
        simp only [List.mem_cons, List.not_mem_nil, or_false] at hs
        rcases hs with rfl | rfl
        · first | exact (HT.out.drewN _).drewN _ | exact HT.out.drewN _
        · first | exact (HVS.out.drewN _).drewN _ | exact HVS.out.drewN _) rfl rfl rfl) (Nat.le_refl _)).mono ?_
      rintro e w5 ⟨v5, rfl, ho5, hb5⟩
      rw [show lsOf [⟨ta, tn, tc, tl⟩, ⟨v.da, v.dn, v.dc, v.deps⟩] = [tl, v.deps] from rfl] at ho5
      rw [HUQ.out] at ho5
      obtain ⟨tb, te, rfl, -, hs5⟩ := own_segI ho5 (fit_union _)
      obtain ⟨tm, htm⟩ : ∃ m, (unionL (l :: (vs.take (q + 1)).map (·.deps))).length = m := ⟨_, rfl⟩
      rw [htm] at hs5 ⊢
      clear htm
      have HS5 := hide hs5
      have BW5 : Hid (Below wr.heap.size wr w5) := Below.trans (by first | exact ((below_drewN (below_drewN (Below.refl _ _) _) _).alloc (Nat.le_refl _) _) | exact ((below_drewN (Below.refl _ _) _).alloc (Nat.le_refl _) _)) (hb5.mono (by simp))
      have c13' : w5.cell? ⟨b, off + q * 15 + 13, none⟩ = some (.int .i64 v.seq) := by rw [BW5.out.cell (p := ⟨b, off + q * 15 + 13, none⟩) (cell_lt c13)]; exact c13
      have HB5 : Hid (Below U.heap.size U w5) := HB.out.trans (BW5.out.mono HB.out.size)
      clear ho5 hb5 hs5 c13 c14 q0 q1
      go_wp2
      go_roundw
      case rel => exact ⟨q + 1, tb, _, te, by go_num, by omega, rfl, by rw [HSN.out], HS5, HB5⟩
      case measure => simp [intOf]; omega
    · have hqN : q = N := by omega
      subst hqN
      have hta : vs.take q = vs := List.take_of_length_le (by have := HN.out; omega)
      rw [hta] at HT ⊢
      rw [← HSQ.out]
      clear hta
      generalize unionL (l :: vs.map (·.deps)) = tl at *
      go_wp2_with fail
      refine (sameI_any _ _ _ _ _ _ tl tl _ HT.out HDR.out).mono ?_
      rintro e w6 ⟨rfl, d6, rfl⟩
      rw [show sameB tl tl = true by unfold sameB; simp]
      have b1 : (S == S) = true := by simp
      go_wp2
      go_ret
      exact ⟨rfl, below_drewN (BU.out.trans (HB.out.mono BU.out.size)) _⟩
end Go.Proofs.Ytakkfdfaacdnmaa
