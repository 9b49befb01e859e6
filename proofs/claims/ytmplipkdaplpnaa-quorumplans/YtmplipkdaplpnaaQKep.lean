/- The contracts of the document's own plan and kept. -/
import Derived.Test.YtmplipkdaplpnaaQHst
namespace Go.Proofs.Ytmplipkdaplpnaa
open Go.RowKit Go.Wire1

set_option maxHeartbeats 4000000 in
set_option maxRecDepth 100000 in
theorem mplan_any (kd : Int) (v : Vt) (w : World) (hv : Vok w v) (h7 : v.dn ≤ 7) :
    Calls Try.prog 41 #[.int .i64 kd, .agg (vcs v).toArray] w fun e w' => ∃ ca cc, e = .returned (.agg (pcs kd v.c v.seq ca v.deps.length cc).toArray) ∧ w'.ownsRow w.heap.size 3 1 (.slice ca v.deps.length cc) v.deps.length (v.deps.map (Value.int .i64)) ∧ Below w.heap.size w w' := by
  have g13 := vcs13 v
  have g14 := vcs14 v
  obtain ⟨U, hU⟩ : ∃ U, U = (w.alloc (.cells (vcs v).toArray 33)).alloc (.cells #[.int .i64 0, .int .i64 0, .int .i64 0, .int .i64 0, .string ⟨#[]⟩, .string ⟨#[]⟩, .string ⟨#[]⟩, .string ⟨#[]⟩, .int .i64 0, .int .i64 0, .slice none 0 0] 38) := ⟨_, rfl⟩
  have BU : Hid (Below w.heap.size w U) := by rw [hU]; exact ((Below.refl _ w).alloc (Nat.le_refl _) _).alloc (by simp) _
  have QU : Hid (Blk U w.heap.size (vcs v)) := by rw [hU]; exact (blk_new w 33 (vcs v)).on ((Below.refl _ _).alloc (Nat.le_refl _) _)
  have ZU : Hid (Blk U (w.heap.size + 1) zP) := by
    have := blk_new (w.alloc (.cells (vcs v).toArray 33)) 38 zP
    rw [World.size_alloc] at this
    rw [hU]; exact this
  have HUS : Hid (w.heap.size + 1 < U.heap.size) := ZU.out.lt
  have HV : Hid (Vok U v) := hv.below BU.out (Nat.le_refl _)
  clear hv
  go_enter Try.func41, Try.ntmps41
  go_upto_region 1 with fail
  rw [← hU]
  clear hU
  refine wp_region_held_drew (S := (fun W' => W'.rangeAt w.heap.size 0 (vcs v))) (by kernel_rfl) QU.out.range (fun hHeld => ?_)
  refine wpAnyH_take (i := 0) (v := ?_) rfl (by kernel_rfl) (by kernel_rfl) (by kernel_rfl) (fun _ _ _ h => h) (Or.inl ⟨by rfl, ?_⟩) (by assumption) ?_
  rotate_left
  · intro w hSw
    try dsimp only at hSw
    go_simp
    try with_reducible rfl
  try simp only [Act.put, List.getElem_toArray, List.getElem_cons_zero, List.setIfInBounds_toArray, List.set_cons_zero, List.set_cons_succ]
  refine wpAnyH_take (i := 1) (v := ?_) rfl (by kernel_rfl) (by kernel_rfl) (by kernel_rfl) (fun _ _ _ h => h) (Or.inl ⟨by rfl, ?_⟩) (by assumption) ?_
  rotate_left
  · intro w hSw
    try dsimp only at hSw
    go_simp
    try with_reducible rfl
  try simp only [Act.put, List.getElem_toArray, List.getElem_cons_succ, List.getElem_cons_zero, List.setIfInBounds_toArray, List.set_cons_zero, List.set_cons_succ]
  refine wpAnyH_take (i := 2) rfl (by kernel_rfl) (by kernel_rfl) (by kernel_rfl) (fun _ _ _ h => h) (yieldsIf_load_mid (by rfl) 31 _ rfl w.heap.size 5 rfl [.int .i64 v.c.kind, .int .i64 v.c.client, .int .i64 v.c.req, .string v.c.key, .string v.c.key2, .string v.c.val, .string v.c.old, .int .i64 v.c.n] _ (fun _ h => vcs_cmd h) Try.underlying31 rfl (by kernel_rfl)) (by assumption) ?_
  try simp only [Act.put, List.getElem_toArray, List.getElem_cons_succ, List.getElem_cons_zero, List.setIfInBounds_toArray, List.set_cons_zero, List.set_cons_succ]
  refine wpAnyH_take (i := 3) (v := ?_) rfl (by kernel_rfl) (by kernel_rfl) (by kernel_rfl) (fun _ _ _ h => h) (Or.inl ⟨by rfl, ?_⟩) (by assumption) ?_
  rotate_left
  · intro w hSw
    try dsimp only at hSw
    go_simp
    try with_reducible rfl
  try simp only [Act.put, List.getElem_toArray, List.getElem_cons_succ, List.getElem_cons_zero, List.setIfInBounds_toArray, List.set_cons_zero, List.set_cons_succ]
  refine wpAnyH_take (i := 4) (v := ?_) rfl (by kernel_rfl) (by kernel_rfl) (by kernel_rfl) (fun _ _ _ h => h) (Or.inl ⟨by rfl, ?_⟩) (by assumption) ?_
  rotate_left
  · intro w hSw
    try dsimp only at hSw
    have s0 := hSw 13 _ g13
    rw [Nat.zero_add] at s0
    go_simp
    try with_reducible rfl
  try simp only [Act.put, List.getElem_toArray, List.getElem_cons_succ, List.getElem_cons_zero, List.setIfInBounds_toArray, List.set_cons_zero, List.set_cons_succ]
  refine wpAnyH_take (i := 5) (v := ?_) rfl (by kernel_rfl) (by kernel_rfl) (by kernel_rfl) (fun _ _ _ h => h) (Or.inl ⟨by rfl, ?_⟩) (by assumption) ?_
  rotate_left
  · intro w hSw
    try dsimp only at hSw
    go_simp
    try with_reducible rfl
  try simp only [Act.put, List.getElem_toArray, List.getElem_cons_succ, List.getElem_cons_zero, List.setIfInBounds_toArray, List.set_cons_zero, List.set_cons_succ]
  refine wpAnyH_take (i := 6) (v := ?_) rfl (by kernel_rfl) (by kernel_rfl) (by kernel_rfl) (fun _ _ _ h => h) (Or.inl ⟨by rfl, ?_⟩) (by assumption) ?_
  rotate_left
  · intro w hSw
    try dsimp only at hSw
    have s1 := hSw 14 _ g14
    rw [Nat.zero_add] at s1
    go_simp
    try with_reducible rfl
  try simp only [Act.put, List.getElem_toArray, List.getElem_cons_succ, List.getElem_cons_zero, List.setIfInBounds_toArray, List.set_cons_zero, List.set_cons_succ]
  refine wpAnyH_ready (rs := [7]) (by kernel_rfl) (by simp) ?_
  refine AllReadyH.cons rfl (fun K hK => ?_) AllReadyH.nil
  rw [if_pos (by rfl)]
  go_wp2_with fail
  refine (ints_any v.da v.dn v.dc v.deps _ (HV.out.seg.drewN 1) (by omega)).mono ?_
  rintro e w5 ⟨vi, rfl, ho5, hb5⟩
  obtain ⟨ca, cc, rfl⟩ := own_shape ho5
  have HO5 := hide ho5
  have B5 : Hid (Below U.heap.size U w5) := (Below.refl U.heap.size U).drew.trans hb5
  have Z5 : Hid (Blk w5 (w.heap.size + 1) zP) := ZU.out.on B5.out
  have TZ5 : Hid (w5.there (w.heap.size + 1) 0 11) := Z5.out.there
  have Q5 : Hid (Blk w5 w.heap.size (vcs v)) := QU.out.on B5.out
  clear ho5 hb5
  refine hK.out _ _ Q5.out.range (fun hHeld => ?_)
  clear hK K
  try simp only [Act.put, List.getElem_toArray, List.getElem_cons_succ, List.getElem_cons_zero, List.setIfInBounds_toArray, List.set_cons_zero, List.set_cons_succ]
  refine wpAnyH_take (i := 8) (v := ?_) rfl (by kernel_rfl) (by kernel_rfl) (by kernel_rfl) (fun _ _ _ h => h) (Or.inl ⟨by rfl, ?_⟩) (by assumption) ?_
  rotate_left
  · intro w hSw
    try dsimp only at hSw
    go_simp
    try with_reducible rfl
  try simp only [Act.put, List.getElem_toArray, List.getElem_cons_succ, List.getElem_cons_zero, List.setIfInBounds_toArray, List.set_cons_zero, List.set_cons_succ]
  refine wpAnyH_ready (rs := [9]) (by kernel_rfl) (by simp) ?_
  refine AllReadyH.cons rfl (fun K hK => ?_) AllReadyH.nil
  rw [if_pos (by rfl)]
  refine wp_store_mid 38 _ _ rfl (w.heap.size + 1) 0 (pcs kd v.c v.seq ca v.deps.length cc).toArray rfl rfl TZ5.out (by kernel_rfl) (all_oneCell_toArray (pcs_one _ _ _ _ _ _)) ?_
  refine hK.out _ _ (World.rangeAt_setCells_apart Q5.out.range _ _ _ (.inl (by omega))) (fun hHeld => ?_)
  clear hK K
  try simp only [Act.put, List.getElem_toArray, List.getElem_cons_succ, List.getElem_cons_zero]
  refine wpAnyH_done (by kernel_rfl) ?_ _
  obtain ⟨Y, hY⟩ : ∃ Y, Y = w5.setCells (w.heap.size + 1) 0 (pcs kd v.c v.seq ca v.deps.length cc) := ⟨_, rfl⟩
  have HY : Hid (Blk Y (w.heap.size + 1) (pcs kd v.c v.seq ca v.deps.length cc)) := by rw [hY]; exact blk_cells Z5.out rfl
  have BY : Hid (Below w.heap.size w Y) := by rw [hY]; exact below_cells (by omega) _ _ _ (BU.out.trans (B5.out.mono BU.out.size))
  have OY : Hid (Y.ownsRow U.heap.size 3 1 (.slice ca v.deps.length cc) v.deps.length (v.deps.map (Value.int .i64))) := by
    show World.ownsRow _ _ _ _ _ _ _
    refine World.ownsRow.kept (row := some (w.heap.size + 1)) HO5.out (by rw [hY]; exact grown_cells _ _ _ _) (.inr fun e => ?_)
    have h1 := HO5.out.lt _ e
    have h2 := HUS.out
    have h3 : (U.drewN 1).heap.size = U.heap.size := rfl
    omega
  rw [← hY]
  clear hY
  go_wp2
  refine bodyPost_ret (results_cell_mid Try.results41 _ _ (w.heap.size + 1) (pcs kd v.c v.seq ca v.deps.length cc) _ rfl HY.out.range Try.underlying38 rfl (by kernel_rfl)) rfl ⟨ca, cc, rfl, own_base OY.out BU.out.size, BY.out⟩
def kepK (m : List (Int × Vt)) (r q : Nat) : Nat := (List.range q).countP fun i => hiB m i && (atH (bvt m i).rd (bvt m i).who 0 (r : Int) && (bvt m i).same)
def kepB (m : List (Int × Vt)) (n r : Nat) : Bool := !(lkm m (r : Int)).isSome && decide ((n : Int) - 1 ≤ 2 * (kepK m r n : Int))
theorem kepK_le (m : List (Int × Vt)) (r q : Nat) : kepK m r q ≤ q := Nat.le_trans List.countP_le_length (by simp)
set_option maxHeartbeats 8000000 in
set_option maxRecDepth 100000 in
theorem kept_any (bb n r : Nat) (m : List (Int × Vt)) (w : World) (hn : n ≤ 7) (hr : r < n) (hb : Blk w bb (bdC m)) :
    Calls Try.prog 42 #[.pointer (some ⟨bb, 0, none⟩), .int .i64 (n : Int), .int .i64 (r : Int)] w fun e w' => e = .returned (.bool (kepB m n r)) ∧ Below w.heap.size w w' := by
  have HBD := hide hb
  have hr7 : (r : Int) < 7 := by omega
  have cb : w.cell? ⟨bb, r, none⟩ = some (.bool (lkm m (r : Int)).isSome) := hb.cell r _ (bd_there m (by omega))
  clear hb
  cases hth : (lkm m (r : Int)).isSome with
  | true =>
    have HQ : Hid (kepB m n r = false) := by show _ = _; unfold kepB; rw [hth]; rfl
    rw [hth] at cb
    clear hth
    go_enter Try.func42, Try.ntmps42
    go_wp2
    go_ret
    exact ⟨by rw [HQ.out]; rfl, Below.refl _ _⟩
  | false =>
    have HTR := hide hth
    rw [hth] at cb
    clear hth
    go_enter Try.func42, Try.ntmps42
    go_upto_region 5 with fail
    clear cb
    go_loopw [7, 8] (fun x i wr => ∃ q : Nat, i = .int .i64 (q : Int) ∧ q ≤ n ∧ x = .int .i64 (kepK m r q : Nat) ∧ Hid (Below w.heap.size w wr)) (fun _ i _ => n - (intOf i).toNat)
    case atStart => exact ⟨0, rfl, Nat.zero_le _, rfl, Below.refl _ _⟩
    case round =>
      obtain ⟨q, rfl, hq, hx, HB⟩ := hrel
      subst hx
      by_cases hlt : q < n
      · have hq7 : (q : Int) < 7 := by omega
        have QB : Hid (Blk wr bb (bdC m)) := HBD.out.on HB.out
        have hdk : kepK m r q ≤ q := kepK_le m r q
        obtain ⟨bq, hbq⟩ : ∃ bq, bvt m q = bq := ⟨_, rfl⟩
        have HBQ := hide hbq
        clear hbq
        have HCH := hide (highest_any bb q m wr (by omega) QB.out)
        go_wp2_with fail
        refine HCH.out.mono ?_
        rintro e w1 ⟨rfl, hb1⟩
        obtain ⟨hi, hhi⟩ : ∃ b, hiB m q = b := ⟨_, rfl⟩
        rw [hhi]
        have HHI := hide hhi
        have B1 : Hid (Below w.heap.size w w1) := HB.out.trans (hb1.mono HB.out.size)
        clear hb1 hhi HCH
        have QB1 : Hid (Blk w1 bb (bdC m)) := HBD.out.on B1.out
        have RQ : Hid (w1.rangeAt bb (7 + q * 15) (vcs bq)) := by rw [← HBQ.out]; exact bd_range QB1.out (by omega)
        have RB : Hid (w1.rangeAt bb (7 + q * 15 + 3) [.int .i64 bq.rd, .int .i64 bq.who]) := rng_balH RQ.out
        go_wp2_with (first | (refine wpList_load_mid rfl 29 _ rfl bb (7 + q * 15 + 3) rfl [.int .i64 bq.rd, .int .i64 bq.who] _ RB.out Try.underlying29 rfl (by kernel_rfl) ?_))
        refine (hsameBal_any _ _ _ _ _).mono ?_
        rintro e w2 ⟨rfl, hb2⟩
        obtain ⟨fs, hfs⟩ : ∃ b, atH bq.rd bq.who 0 (r : Int) = b := ⟨_, rfl⟩
        rw [hfs]
        have HFS := hide hfs
        have B2 : Hid (Below w.heap.size w w2) := B1.out.trans (hb2.mono B1.out.size)
        have RQ2 : Hid (w2.rangeAt bb (7 + q * 15) (vcs bq)) := range_below RQ.out hb2 QB1.out.lt
        have s2 : w2.cell? ⟨bb, 7 + q * 15 + 2, none⟩ = some (.bool bq.same) := RQ2.out 2 _ (vcs2 bq)
        clear hfs hb2
        have HK1 : Hid (kepK m r (q + 1) = if hi && (fs && bq.same) then kepK m r q + 1 else kepK m r q) := by
          show _ = _
          unfold kepK
          rw [List.range_succ, List.countP_append, List.countP_cons, List.countP_nil, HHI.out, HBQ.out, HFS.out]
          split <;> simp_all
        cases hi with
        | false =>
          have HK2 : Hid (kepK m r (q + 1) = kepK m r q) := by show _ = _; rw [HK1.out]; rfl
          go_wp2
          go_roundw
          case rel => exact ⟨q + 1, by go_num, by omega, by rw [HK2.out], B2⟩
          case measure => simp [intOf]; omega
        | true =>
          cases fs with
          | false =>
            have HK2 : Hid (kepK m r (q + 1) = kepK m r q) := by show _ = _; rw [HK1.out]; rfl
            go_wp2
            go_roundw
            case rel => exact ⟨q + 1, by go_num, by omega, by rw [HK2.out], B2⟩
            case measure => simp [intOf]; omega
          | true =>
            cases hsm : bq.same with
            | false =>
              have HK2 : Hid (kepK m r (q + 1) = kepK m r q) := by show _ = _; rw [HK1.out, hsm]; rfl
              rw [hsm] at s2
              clear hsm
              go_wp2
              go_roundw
              case rel => exact ⟨q + 1, by go_num, by omega, by rw [HK2.out], B2⟩
              case measure => simp [intOf]; omega
            | true =>
              have HK2 : Hid (kepK m r (q + 1) = kepK m r q + 1) := by show _ = _; rw [HK1.out, hsm]; rfl
              rw [hsm] at s2
              clear hsm
              go_wp2
              go_roundw
              case rel => exact ⟨q + 1, by go_num, by omega, by rw [HK2.out]; go_num, B2⟩
              case measure => simp [intOf]; omega
      · obtain rfl : q = n := by omega
        have hdk : kepK m r q ≤ q := kepK_le m r q
        have HQ : Hid (kepB m q r = decide ((q : Int) - 1 ≤ 2 * (kepK m r q : Int))) := by show _ = _; unfold kepB; rw [HTR.out]; rfl
        go_wp2
        go_ret
        exact ⟨by rw [HQ.out]; rfl, HB.out⟩
end Go.Proofs.Ytmplipkdaplpnaa
