/- The contracts of the document's own highest, plan and kept. -/
import Derived.Test.YtmplipkdaplpnaaQRep
import Derived.Test.YtmplipkdaplpnaaQAcc
import Derived.Test.YtmplipkdaplpnaaQInts
namespace Go.Proofs.Ytmplipkdaplpnaa
open Go.RowKit Go.Wire1

def blH (x y x' y' : Int) : Bool := if x = x' then decide (y < y') else decide (x < x')
def atH (x y x' y' : Int) : Bool := (x == x') && (y == y')
def sAt (m : List (Int × Vt)) (i : Nat) : Bool := (lkm m (i : Int)).isSome && ((bvt m i).st != 0)
def hiB (m : List (Int × Vt)) (i : Nat) : Bool := sAt m i && (List.range 7).all fun k => !(sAt m k && blH (bvt m i).rd (bvt m i).who (bvt m k).rd (bvt m k).who)
set_option maxHeartbeats 1000000 in
set_option maxRecDepth 100000 in
theorem hbelow_any (x y x' y' : Int) (w : World) : Calls Try.prog 62 #[.agg #[.int .i64 x, .int .i64 y], .agg #[.int .i64 x', .int .i64 y']] w fun e w' => e = .returned (.bool (blH x y x' y')) ∧ Below w.heap.size w w' := by
  by_cases h : x = x'
  · have HQ : Hid (blH x y x' y' = decide (y < y')) := by show _ = _; unfold blH; rw [if_pos h]
    have b1 : (x != x') = false := by simp [h]
    clear h
    go_enter Try.func62, Try.ntmps62
    go_wp2
    go_ret
    exact ⟨by rw [HQ.out]; rfl, ((Below.refl _ w).alloc (Nat.le_refl _) _).alloc (by simp) _⟩
  · have HQ : Hid (blH x y x' y' = decide (x < x')) := by show _ = _; unfold blH; rw [if_neg h]
    have b1 : (x != x') = true := by simp [h]
    clear h
    go_enter Try.func62, Try.ntmps62
    go_wp2
    go_ret
    exact ⟨by rw [HQ.out]; rfl, ((Below.refl _ w).alloc (Nat.le_refl _) _).alloc (by simp) _⟩
set_option maxHeartbeats 1000000 in
set_option maxRecDepth 100000 in
theorem hsameBal_any (x y x' y' : Int) (w : World) : Calls Try.prog 63 #[.agg #[.int .i64 x, .int .i64 y], .agg #[.int .i64 x', .int .i64 y']] w fun e w' => e = .returned (.bool (atH x y x' y')) ∧ Below w.heap.size w w' := by
  by_cases h : x = x'
  · have HQ : Hid (atH x y x' y' = (y == y')) := by show _ = _; unfold atH; rw [beq_iff_eq.2 h]; rfl
    have b1 : (x == x') = true := beq_iff_eq.2 h
    clear h
    go_enter Try.func63, Try.ntmps63
    go_wp2
    go_ret
    exact ⟨by rw [HQ.out]; rfl, ((Below.refl _ w).alloc (Nat.le_refl _) _).alloc (by simp) _⟩
  · have HQ : Hid (atH x y x' y' = false) := by show _ = _; unfold atH; rw [beq_eq_false_iff_ne.2 h]; rfl
    have b1 : (x == x') = false := beq_eq_false_iff_ne.2 h
    clear h
    go_enter Try.func63, Try.ntmps63
    go_wp2
    go_ret
    exact ⟨by rw [HQ.out]; rfl, ((Below.refl _ w).alloc (Nat.le_refl _) _).alloc (by simp) _⟩
theorem rng_balH {w : World} {g o : Nat} {v : Vt} (h : w.rangeAt g o (vcs v)) : w.rangeAt g (o + 3) [.int .i64 v.rd, .int .i64 v.who] := fun j x hj => by
  match j, hj with
  | 0, hj => exact h 3 x hj
  | 1, hj => exact h 4 x hj
set_option maxHeartbeats 8000000 in
set_option maxRecDepth 100000 in
theorem highest_any (bb i : Nat) (m : List (Int × Vt)) (w : World) (hi : i < 7) (hb : Blk w bb (bdC m)) :
    Calls Try.prog 40 #[.pointer (some ⟨bb, 0, none⟩), .int .i64 (i : Int)] w fun e w' => e = .returned (.bool (hiB m i)) ∧ Below w.heap.size w w' := by
  have HBD := hide hb
  have hi7 : (i : Int) < 7 := by omega
  have cb : w.cell? ⟨bb, i, none⟩ = some (.bool (lkm m (i : Int)).isSome) := hb.cell i _ (bd_there m hi)
  obtain ⟨bi, hbi⟩ : ∃ bi, bvt m i = bi := ⟨_, rfl⟩
  have HBI := hide hbi
  have HRI : Hid (w.rangeAt bb (7 + i * 15) (vcs bi)) := by rw [← hbi]; exact bd_range hb hi
  have s1 : w.cell? ⟨bb, 7 + i * 15 + 1, none⟩ = some (.int .i64 bi.st) := HRI.out 1 _ (vcs1 bi)
  clear hb hbi
  cases hth : (lkm m (i : Int)).isSome with
  | false =>
    have HQ : Hid (hiB m i = false) := by show _ = _; unfold hiB sAt; rw [hth]; rfl
    rw [hth] at cb
    clear hth
    go_enter Try.func40, Try.ntmps40
    go_wp2
    go_ret
    exact ⟨by rw [HQ.out]; rfl, Below.refl _ _⟩
  | true =>
    rw [hth] at cb
    by_cases hst : bi.st = 0
    · have HQ : Hid (hiB m i = false) := by show _ = _; unfold hiB sAt; rw [HBI.out, hst]; simp
      have b0 : (bi.st == 0) = true := beq_iff_eq.2 hst
      clear hth hst
      go_enter Try.func40, Try.ntmps40
      go_wp2
      go_ret
      exact ⟨by rw [HQ.out]; rfl, Below.refl _ _⟩
    · have b0 : (bi.st == 0) = false := beq_eq_false_iff_ne.2 hst
      have HSI : Hid (sAt m i = true) := by show _ = _; unfold sAt; rw [HBI.out, hth]; simp [hst]
      clear hth hst
      go_enter Try.func40, Try.ntmps40
      go_upto_region 4 with fail
      clear cb s1 b0
      go_loopw [5] (fun x wr => ∃ q : Nat, x = .int .i64 (q : Int) ∧ q ≤ 7 ∧ Hid (((List.range q).all fun k => !(sAt m k && blH (bvt m i).rd (bvt m i).who (bvt m k).rd (bvt m k).who)) = true) ∧ Hid (Below w.heap.size w wr)) (fun x _ => 7 - (intOf x).toNat)
      case atStart => exact ⟨0, rfl, Nat.zero_le _, rfl, Below.refl _ _⟩
      case round =>
        obtain ⟨q, rfl, hq, HA, HB⟩ := hrel
        by_cases hlt : q < 7
        · have hq7 : (q : Int) < 7 := by omega
          have QB : Hid (Blk wr bb (bdC m)) := HBD.out.on HB.out
          have cb : wr.cell? ⟨bb, q, none⟩ = some (.bool (lkm m (q : Int)).isSome) := QB.out.cell q _ (bd_there m hlt)
          obtain ⟨bq, hbq⟩ : ∃ bq, bvt m q = bq := ⟨_, rfl⟩
          have HBQ := hide hbq
          have RQ : Hid (wr.rangeAt bb (7 + q * 15) (vcs bq)) := by rw [← hbq]; exact bd_range QB.out hlt
          have RI : Hid (wr.rangeAt bb (7 + i * 15) (vcs bi)) := range_below HRI.out HB.out HBD.out.lt
          have s1 : wr.cell? ⟨bb, 7 + q * 15 + 1, none⟩ = some (.int .i64 bq.st) := RQ.out 1 _ (vcs1 bq)
          have hbw : bb < wr.heap.size := QB.out.lt
          clear hbq
          cases hth : (lkm m (q : Int)).isSome with
          | false =>
            have HSQ : Hid (sAt m q = false) := by show _ = _; unfold sAt; rw [hth]; rfl
            rw [hth] at cb
            clear hth
            have HA2 : Hid (((List.range (q + 1)).all fun k => !(sAt m k && blH (bvt m i).rd (bvt m i).who (bvt m k).rd (bvt m k).who)) = true) := by
              show _ = _
              rw [List.range_succ, List.all_append, HA.out]
              rw [List.all_cons, HSQ.out]; rfl
            go_wp2
            go_roundw
            case rel => exact ⟨q + 1, by go_num, by omega, HA2, HB⟩
            case measure => simp [intOf]; omega
          | true =>
            rw [hth] at cb
            by_cases hst : bq.st = 0
            · have HSQ : Hid (sAt m q = false) := by show _ = _; unfold sAt; rw [HBQ.out, hst]; simp
              have b0 : (bq.st != 0) = false := by simp [hst]
              clear hth hst
              have HA2 : Hid (((List.range (q + 1)).all fun k => !(sAt m k && blH (bvt m i).rd (bvt m i).who (bvt m k).rd (bvt m k).who)) = true) := by
                show _ = _
                rw [List.range_succ, List.all_append, HA.out]
                rw [List.all_cons, HSQ.out]; rfl
              go_wp2
              go_roundw
              case rel => exact ⟨q + 1, by go_num, by omega, HA2, HB⟩
              case measure => simp [intOf]; omega
            · have HSQ : Hid (sAt m q = true) := by show _ = _; unfold sAt; rw [HBQ.out, hth]; simp [hst]
              have b0 : (bq.st != 0) = true := by simp [hst]
              clear hth hst
              go_upto_region 7 with fail
              refine wp_region_held_drew (S := (fun W' => W'.rangeAt bb (7 + i * 15) (vcs bi) ∧ W'.rangeAt bb (7 + q * 15) (vcs bq))) (by kernel_rfl) ⟨RI.out, RQ.out⟩ (fun hHeld => ?_)
              refine wpAnyH_take (i := 0) (v := ?_) rfl (by kernel_rfl) (by kernel_rfl) (by kernel_rfl) (fun _ _ _ h => h) (Or.inl ⟨by rfl, ?_⟩) (by assumption) ?_
              rotate_left
              · intro w hSw
                try dsimp only at hSw
                go_simp
                try with_reducible rfl
              try simp only [Act.put, List.getElem_toArray, List.getElem_cons_zero, List.setIfInBounds_toArray, List.set_cons_zero, List.set_cons_succ]
              refine wpAnyH_take (i := 1) (v := ?_) rfl (by kernel_rfl) (by kernel_rfl) (by kernel_rfl) (fun _ _ _ h => h) (Or.inl ⟨by rfl, ?_⟩) (by assumption) ?_
              rotate_left
              · intro w hSw
                try dsimp only at hSw
                go_simp
                try with_reducible rfl
              try simp only [Act.put, List.getElem_toArray, List.getElem_cons_succ, List.getElem_cons_zero, List.setIfInBounds_toArray, List.set_cons_zero, List.set_cons_succ]
              refine wpAnyH_take (i := 2) (v := ?_) rfl (by kernel_rfl) (by kernel_rfl) (by kernel_rfl) (fun _ _ _ h => h) (Or.inl ⟨by rfl, ?_⟩) (by assumption) ?_
              rotate_left
              · intro w hSw
                try dsimp only at hSw
                go_simp
                try with_reducible rfl
              try simp only [Act.put, List.getElem_toArray, List.getElem_cons_succ, List.getElem_cons_zero, List.setIfInBounds_toArray, List.set_cons_zero, List.set_cons_succ]
              refine wpAnyH_take (i := 3) (v := ?_) rfl (by kernel_rfl) (by kernel_rfl) (by kernel_rfl) (fun _ _ _ h => h) (Or.inl ⟨by rfl, ?_⟩) (by assumption) ?_
              rotate_left
              · intro w hSw
                try dsimp only at hSw
                go_simp
                try with_reducible rfl
              try simp only [Act.put, List.getElem_toArray, List.getElem_cons_succ, List.getElem_cons_zero, List.setIfInBounds_toArray, List.set_cons_zero, List.set_cons_succ]
              refine wpAnyH_take (i := 4) (v := ?_) rfl (by kernel_rfl) (by kernel_rfl) (by kernel_rfl) (fun _ _ _ h => h) (Or.inl ⟨by rfl, ?_⟩) (by assumption) ?_
              rotate_left
              · intro w hSw
                try dsimp only at hSw
                go_simp
                try with_reducible rfl
              try simp only [Act.put, List.getElem_toArray, List.getElem_cons_succ, List.getElem_cons_zero, List.setIfInBounds_toArray, List.set_cons_zero, List.set_cons_succ]
              refine wpAnyH_take (i := 5) (v := ?_) rfl (by kernel_rfl) (by kernel_rfl) (by kernel_rfl) (fun _ _ _ h => h) (Or.inl ⟨by rfl, ?_⟩) (by assumption) ?_
              rotate_left
              · intro w hSw
                try dsimp only at hSw
                go_simp
                try with_reducible rfl
              try simp only [Act.put, List.getElem_toArray, List.getElem_cons_succ, List.getElem_cons_zero, List.setIfInBounds_toArray, List.set_cons_zero, List.set_cons_succ]
              refine wpAnyH_take (i := 6) rfl (by kernel_rfl) (by kernel_rfl) (by kernel_rfl) (fun _ _ _ h => h) (yieldsIf_load_mid (by rfl) 29 _ rfl bb (7 + i * 15 + 3) rfl [.int .i64 bi.rd, .int .i64 bi.who] _ (fun _ h => rng_balH h.1) Try.underlying29 rfl (by kernel_rfl)) (by assumption) ?_
              try simp only [Act.put, List.getElem_toArray, List.getElem_cons_succ, List.getElem_cons_zero, List.setIfInBounds_toArray, List.set_cons_zero, List.set_cons_succ]
              refine wpAnyH_take (i := 7) (v := ?_) rfl (by kernel_rfl) (by kernel_rfl) (by kernel_rfl) (fun _ _ _ h => h) (Or.inl ⟨by rfl, ?_⟩) (by assumption) ?_
              rotate_left
              · intro w hSw
                try dsimp only at hSw
                go_simp
                try with_reducible rfl
              try simp only [Act.put, List.getElem_toArray, List.getElem_cons_succ, List.getElem_cons_zero, List.setIfInBounds_toArray, List.set_cons_zero, List.set_cons_succ]
              refine wpAnyH_take (i := 8) (v := ?_) rfl (by kernel_rfl) (by kernel_rfl) (by kernel_rfl) (fun _ _ _ h => h) (Or.inl ⟨by rfl, ?_⟩) (by assumption) ?_
              rotate_left
              · intro w hSw
                try dsimp only at hSw
                go_simp
                try with_reducible rfl
              try simp only [Act.put, List.getElem_toArray, List.getElem_cons_succ, List.getElem_cons_zero, List.setIfInBounds_toArray, List.set_cons_zero, List.set_cons_succ]
              refine wpAnyH_take (i := 9) (v := ?_) rfl (by kernel_rfl) (by kernel_rfl) (by kernel_rfl) (fun _ _ _ h => h) (Or.inl ⟨by rfl, ?_⟩) (by assumption) ?_
              rotate_left
              · intro w hSw
                try dsimp only at hSw
                go_simp
                try with_reducible rfl
              try simp only [Act.put, List.getElem_toArray, List.getElem_cons_succ, List.getElem_cons_zero, List.setIfInBounds_toArray, List.set_cons_zero, List.set_cons_succ]
              refine wpAnyH_take (i := 10) (v := ?_) rfl (by kernel_rfl) (by kernel_rfl) (by kernel_rfl) (fun _ _ _ h => h) (Or.inl ⟨by rfl, ?_⟩) (by assumption) ?_
              rotate_left
              · intro w hSw
                try dsimp only at hSw
                go_simp
                try with_reducible rfl
              try simp only [Act.put, List.getElem_toArray, List.getElem_cons_succ, List.getElem_cons_zero, List.setIfInBounds_toArray, List.set_cons_zero, List.set_cons_succ]
              refine wpAnyH_take (i := 11) (v := ?_) rfl (by kernel_rfl) (by kernel_rfl) (by kernel_rfl) (fun _ _ _ h => h) (Or.inl ⟨by rfl, ?_⟩) (by assumption) ?_
              rotate_left
              · intro w hSw
                try dsimp only at hSw
                go_simp
                try with_reducible rfl
              try simp only [Act.put, List.getElem_toArray, List.getElem_cons_succ, List.getElem_cons_zero, List.setIfInBounds_toArray, List.set_cons_zero, List.set_cons_succ]
              refine wpAnyH_take (i := 12) (v := ?_) rfl (by kernel_rfl) (by kernel_rfl) (by kernel_rfl) (fun _ _ _ h => h) (Or.inl ⟨by rfl, ?_⟩) (by assumption) ?_
              rotate_left
              · intro w hSw
                try dsimp only at hSw
                go_simp
                try with_reducible rfl
              try simp only [Act.put, List.getElem_toArray, List.getElem_cons_succ, List.getElem_cons_zero, List.setIfInBounds_toArray, List.set_cons_zero, List.set_cons_succ]
              refine wpAnyH_take (i := 13) rfl (by kernel_rfl) (by kernel_rfl) (by kernel_rfl) (fun _ _ _ h => h) (yieldsIf_load_mid (by rfl) 29 _ rfl bb (7 + q * 15 + 3) rfl [.int .i64 bq.rd, .int .i64 bq.who] _ (fun _ h => rng_balH h.2) Try.underlying29 rfl (by kernel_rfl)) (by assumption) ?_
              try simp only [Act.put, List.getElem_toArray, List.getElem_cons_succ, List.getElem_cons_zero, List.setIfInBounds_toArray, List.set_cons_zero, List.set_cons_succ]
              refine wpAnyH_ready (rs := [14]) (by kernel_rfl) (by simp) ?_
              refine AllReadyH.cons rfl (fun K hK => ?_) AllReadyH.nil
              rw [if_pos (by rfl)]
              go_wp2_with fail
              refine (hbelow_any _ _ _ _ _).mono ?_
              rintro e w5 ⟨rfl, hb5⟩
              obtain ⟨lo, hlo⟩ : ∃ b, blH bi.rd bi.who bq.rd bq.who = b := ⟨_, rfl⟩
              rw [hlo]
              have HLO := hide hlo
              have HB5 : Hid (Below wr.heap.size wr w5) := (Below.refl wr.heap.size wr).drew.trans hb5
              clear hb5 hlo
              refine hK.out _ _ ⟨range_below RI.out HB5.out hbw, range_below RQ.out HB5.out hbw⟩ (fun hHeld => ?_)
              clear hK K
              try simp only [Act.put, List.getElem_toArray, List.getElem_cons_succ, List.getElem_cons_zero, List.setIfInBounds_toArray, List.set_cons_zero, List.set_cons_succ]
              refine wpAnyH_take (i := 15) (v := ?_) rfl (by kernel_rfl) (by kernel_rfl) (by kernel_rfl) (fun _ _ _ h => h) (Or.inl ⟨by rfl, ?_⟩) (by assumption) ?_
              rotate_left
              · intro w hSw
                try dsimp only at hSw
                go_simp
                try with_reducible rfl
              try simp only [Act.put, List.getElem_toArray, List.getElem_cons_succ, List.getElem_cons_zero, List.setIfInBounds_toArray, List.set_cons_zero, List.set_cons_succ]
              refine wpAnyH_done (by kernel_rfl) ?_ _
              have BW5 : Hid (Below w.heap.size w w5) := HB.out.trans (HB5.out.mono HB.out.size)
              cases lo with
              | false =>
                have HA2 : Hid (((List.range (q + 1)).all fun k => !(sAt m k && blH (bvt m i).rd (bvt m i).who (bvt m k).rd (bvt m k).who)) = true) := by
                  show _ = _
                  rw [List.range_succ, List.all_append, HA.out]
                  rw [List.all_cons, HSQ.out, HBI.out, HBQ.out, HLO.out]; rfl
                go_wp2
                go_roundw
                case rel => exact ⟨q + 1, by go_num, by omega, HA2, BW5⟩
                case measure => simp [intOf]; omega
              | true =>
                have HQ : Hid (hiB m i = false) := by
                  show _ = _
                  have h1 : ((List.range 7).all fun k => !(sAt m k && blH (bvt m i).rd (bvt m i).who (bvt m k).rd (bvt m k).who)) = false := by
                    rw [List.all_eq_false]
                    exact ⟨q, List.mem_range.2 hlt, by rw [HSQ.out, HBI.out, HBQ.out, HLO.out]; simp⟩
                  unfold hiB
                  rw [h1, Bool.and_false]
                go_wp2
                go_ret
                exact ⟨by rw [HQ.out]; rfl, BW5.out⟩
        · obtain rfl : q = 7 := by omega
          have HQ : Hid (hiB m i = true) := by show _ = _; unfold hiB; rw [HSI.out, HA.out]; rfl
          go_wp2
          go_ret
          exact ⟨by rw [HQ.out]; rfl, HB.out⟩
end Go.Proofs.Ytmplipkdaplpnaa
