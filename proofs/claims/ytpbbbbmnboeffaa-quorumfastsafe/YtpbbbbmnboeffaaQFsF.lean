/- The contract of the statements' own fast. -/
import Derived.Test.YtpbbbbmnboeffaaQFsM
import Derived.Test.YtpbbbbmnboeffaaQFast
import Derived.Test.YtpbbbbmnboeffaaQLaw
namespace Go.Proofs.Ytpbbbbmnboeffaa
open Go.RowKit Go.Wire1

theorem built_vote (fr st : Int) (same : Bool) (rd who : Int) (c : Cm) (seq : Int) (a : Option Addr) (n cap : Nat) (l : List Int) : Try.prog.built 34 [(0, .int .i64 fr), (1, .int .i64 st), (2, .bool same), (3, .agg #[.int .i64 rd, .int .i64 who]), (4, .agg (ccs c).toArray), (5, .int .i64 seq), (6, .slice a n cap)] = some (vcs ⟨fr, st, same, rd, who, c, seq, a, n, cap, l⟩).toArray := by kernel_rfl
/-- Two rows of votes of our own, apart. -/
structure Two (w : World) (D : Nat) (x y : Value) (xs ys : List Vt) : Prop where
  left : w.ownsRow D 34 15 x xs.length ((xs.map vcs).flatten)
  right : w.ownsRow D 34 15 y ys.length ((ys.map vcs).flatten)
  apart : ∀ j, x.ownBlock = some j → y.ownBlock ≠ some j
theorem Two.below {w w' : World} {D E : Nat} {x y : Value} {xs ys : List Vt} (h : Two w D x y xs ys) (hb : Below E w w') (hE : w.heap.size ≤ E) : Two w' D x y xs ys := ⟨own_below h.left hb hE, own_below h.right hb hE, h.apart⟩
theorem Two.swap {w : World} {D : Nat} {x y : Value} {xs ys : List Vt} (h : Two w D x y xs ys) : Two w D y x ys xs := ⟨h.right, h.left, fun j h1 h2 => h.apart j h2 h1⟩
theorem Two.push {w w' : World} {D : Nat} {x x' y : Value} {xs ys : List Vt} {v : Vt} (h : Two w D x y xs ys) (ho : w'.ownsRow D 34 15 x' (xs.length + 1) ((xs.map vcs).flatten ++ vcs v)) (hg : w.grownBy w' x.ownBlock) (hl : x'.ownBlock = x.ownBlock ∨ x'.ownBlock = some w.heap.size) : Two w' D x' y (xs ++ [v]) ys := by
  refine ⟨by rw [List.map_append, List.flatten_append, List.length_append]; simpa using ho, World.ownsRow.kept (row := x.ownBlock) h.right hg ?_, fun j h1 h2 => ?_⟩
  · cases hy : y.ownBlock with
    | none => exact .inl rfl
    | some j => exact .inr fun e => h.apart j e.symm hy
  · rcases hl with e | e
    · exact h.apart j (by rw [← e]; exact h1) h2
    · rw [e] at h1
      injection h1 with h1
      have := h.right.lt j h2
      omega
theorem Two.lt {w : World} {D : Nat} {x y : Value} {xs ys : List Vt} (h : Two w D x y xs ys) : ∀ j, x.ownBlock = some j → D ≤ j ∧ j < w.heap.size := fun j hj => h.left.lt j hj
theorem allF_snoc {f : Nat → Vt} (q : Nat) : (List.range (q + 1)).map f = (List.range q).map f ++ [f q] := by rw [List.range_succ, List.map_append]; rfl
theorem repF_snoc {f : Nat → Vt} {p : Nat → Bool} (q : Nat) : ((List.range (q + 1)).filter p).map f = if p q then ((List.range q).filter p).map f ++ [f q] else ((List.range q).filter p).map f := by
  rw [List.range_succ, List.filter_append, List.map_append]
  cases h : p q <;> simp [h]
set_option maxHeartbeats 8000000 in
set_option maxRecDepth 100000 in
theorem lfast_any (n r : Nat) (c : Cm) (seq : Int) (a : Option Addr) (k cap : Nat) (l : List Int) (odd : Vt) (pa : Option Addr) (P pc : Nat) (pick : List Int) (w : World) (hz : szQ (n : Int) = true) (hr : r < n) (ho : repQ (n : Int) odd.fr = true) (hne : odd.fr ≠ (r : Int)) (hs : SegI w a k l) (hkc : k ≤ cap) (hsn : sndQ n seq l = true) (hov : Vok w odd)
    (hodd : odd.st = 0 ∨ (odd.st = 1 ∧ sndQ n odd.seq odd.deps = true)) (hp : SegI w pa P pick) (hP : P ≤ 1152921504606846976) :
    Calls Try.prog 8 #[.int .i64 (n : Int), .int .i64 (r : Int), .agg (ccs c).toArray, .agg #[.int .i64 seq, .slice a k cap], .agg (vcs odd).toArray, .slice pa P pc] w fun e w' => e = .returned (.bool true) ∧ Below w.heap.size w w' := by
  obtain ⟨i0, hii, hz0, hz1, hz2⟩ := info_parts infoVQ
  have hn7 : n ≤ 7 := by have := sz_nat hz; omega
  obtain ⟨o, hof⟩ : ∃ o : Nat, odd.fr = (o : Int) := ⟨odd.fr.toNat, by unfold repQ at ho; simp only [Bool.and_eq_true, decide_eq_true_eq] at ho; omega⟩
  obtain ⟨U, hU⟩ : ∃ U, U = (((w.alloc (.cells (ccs c).toArray 25)).alloc (.cells #[.int .i64 seq, .slice a k cap] 28)).alloc (.cells (vcs odd).toArray 34)).alloc (.cells #[.int .i64 0, .int .i64 (r : Int)] 23) := ⟨_, rfl⟩
  have BU : Hid (Below w.heap.size w U) := by rw [hU]; exact ((((Below.refl _ w).alloc (Nat.le_refl _) _).alloc (by simp) _).alloc (by simp; omega) _).alloc (by simp; omega) _
  have Q1 : Hid (Blk U w.heap.size (ccs c)) := by
    rw [hU]; exact (blk_new w 25 (ccs c)).on ((((Below.refl _ _).alloc (Nat.le_refl _) _).alloc (by simp) _).alloc (by simp) _)
  have Q2 : Hid (Blk U (w.heap.size + 1) [.int .i64 seq, .slice a k cap]) := by
    have := blk_new (w.alloc (.cells (ccs c).toArray 25)) 28 [.int .i64 seq, .slice a k cap]
    rw [World.size_alloc] at this
    rw [hU]; exact this.on (((Below.refl _ _).alloc (Nat.le_refl _) _).alloc (by simp) _)
  have Q3 : Hid (Blk U (w.heap.size + 1 + 1) (vcs odd)) := by
    have := blk_new ((w.alloc (.cells (ccs c).toArray 25)).alloc (.cells #[.int .i64 seq, .slice a k cap] 28)) 34 (vcs odd)
    rw [World.size_alloc, World.size_alloc] at this
    rw [hU]; exact this.on ((Below.refl _ _).alloc (Nat.le_refl _) _)
  have Q4 : Hid (Blk U (w.heap.size + 1 + 1 + 1) [.int .i64 0, .int .i64 (r : Int)]) := by
    have := blk_new (((w.alloc (.cells (ccs c).toArray 25)).alloc (.cells #[.int .i64 seq, .slice a k cap] 28)).alloc (.cells (vcs odd).toArray 34)) 23 [.int .i64 0, .int .i64 (r : Int)]
    rw [World.size_alloc, World.size_alloc, World.size_alloc] at this
    rw [hU]; exact this
  have HS := hide (hs.below BU.out (Nat.le_refl _))
  have HP := hide (hp.below BU.out (Nat.le_refl _))
  have HOV := hide (hov.below BU.out (Nat.le_refl _))
  have HKC := hide hkc
  have HFS := hide (fast_safe (k := k) (cap := cap) (a := a) (c := c) hz hr ho hne hsn)
  have HPL := hide (fast_plan (k := k) (cap := cap) (a := a) (c := c) hz hr ho hsn hodd pick)
  have HCF := hide (chQ_facts n r (n / 2 + 1) pick)
  have HSN := hide hsn
  have HZ := hide hz
  have hor : o ≠ r := by omega
  clear hs hkc hov hp hodd hsn ho hne hz
  go_enter Try.func8, Try.ntmps8
  go_upto_region 2 with fail
  rw [← hU]
  clear hU
  go_wp2_with fail
  go_loopw [14, 15, 16] (fun x y i wr => ∃ q : Nat, i = .int .i64 (q : Int) ∧ q ≤ n ∧ Hid (Two wr U.heap.size x y ((List.range q).map (aF odd r c seq a k cap l)) (((List.range q).filter (rF odd r)).map (aF odd r c seq a k cap l))) ∧ Hid (Below U.heap.size U wr)) (fun _ _ i _ => n - (intOf i).toNat)
  case atStart => exact ⟨0, rfl, Nat.zero_le _, ⟨World.ownsRow_nil _ _ _ _, World.ownsRow_nil _ _ _ _, fun j h => by cases h⟩, Below.refl _ _⟩
  case round =>
    obtain ⟨q, rfl, hq, HT, HB⟩ := hrel
    by_cases hlt : q < n
    · have R1 : Hid (Blk wr w.heap.size (ccs c)) := Q1.out.on HB.out
      have R2 : Hid (Blk wr (w.heap.size + 1) [.int .i64 seq, .slice a k cap]) := Q2.out.on HB.out
      have R4 : Hid (Blk wr (w.heap.size + 1 + 1 + 1) [.int .i64 0, .int .i64 (r : Int)]) := Q4.out.on HB.out
      have c20 := R2.out.cell 0 _ rfl
      have c21 := R2.out.cell 1 _ rfl
      have hU4 := Q4.out.lt
      have hww := HB.out.size
      obtain ⟨X, hX⟩ : ∃ X, X = wr.alloc (.cells (zv).toArray 34) := ⟨_, rfl⟩
      have ZX : Hid (Blk X wr.heap.size zv) := by rw [hX]; exact blk_new wr 34 zv
      have TX := hide ZX.out.there
      have BX : Hid (Below wr.heap.size wr X) := by rw [hX]; exact (Below.refl _ _).alloc (Nat.le_refl _) _
      obtain ⟨Y, hY⟩ : ∃ Y, Y = X.setCells wr.heap.size 0 (vcs (vF r c seq a k cap l q)) := ⟨_, rfl⟩
      have HVY : Hid (Blk Y wr.heap.size (vcs (vF r c seq a k cap l q))) := by rw [hY]; exact blk_cells ZX.out rfl
      have BY : Hid (Below wr.heap.size wr Y) := by rw [hY]; exact below_cells (Nat.le_refl _) _ _ _ BX.out
      have HX : Hid (wr.alloc (.cells #[.int .i64 0, .int .i64 0, .bool false, .int .i64 0, .int .i64 0, .int .i64 0, .int .i64 0, .int .i64 0, .string ⟨#[]⟩, .string ⟨#[]⟩, .string ⟨#[]⟩, .string ⟨#[]⟩, .int .i64 0, .int .i64 0, .slice none 0 0] 34) = X) := hX.symm
      have HY := hide hY
      clear hX hY
      have hlA : ((List.range q).map (aF odd r c seq a k cap l)).length = q := by simp
      have hlB : (((List.range q).filter (rF odd r)).map (aF odd r c seq a k cap l)).length ≤ q := by rw [List.length_map]; exact Nat.le_trans (List.length_filter_le _ _) (by simp)
      have HSA : Hid ((List.range (q + 1)).map (aF odd r c seq a k cap l) = (List.range q).map (aF odd r c seq a k cap l) ++ [aF odd r c seq a k cap l q]) := allF_snoc q
      have HSB : Hid (((List.range (q + 1)).filter (rF odd r)).map (aF odd r c seq a k cap l) = if rF odd r q then ((List.range q).filter (rF odd r)).map (aF odd r c seq a k cap l) ++ [aF odd r c seq a k cap l q] else ((List.range q).filter (rF odd r)).map (aF odd r c seq a k cap l)) := repF_snoc q
      have HTY := hide (HT.out.below BY.out (Nat.le_refl _))
      have HTL : Hid (∀ j, u14.ownBlock = some j → j < wr.heap.size) := fun j hj => (HT.out.lt j hj).2
      have HTR : Hid (∀ j, u15.ownBlock = some j → j < wr.heap.size) := fun j hj => (HT.out.swap.lt j hj).2
      have HTW : Hid (∀ W, Below wr.heap.size wr W → Two W U.heap.size u14 u15 ((List.range q).map (aF odd r c seq a k cap l)) (((List.range q).filter (rF odd r)).map (aF odd r c seq a k cap l))) := fun W hW => HT.out.below hW (Nat.le_refl _)
      clear HT
      go_upto_region 8 with (first | (refine wpList_load_mid rfl 23 _ rfl (w.heap.size + 1 + 1 + 1) 0 rfl [.int .i64 0, .int .i64 (r : Int)] _ R4.out.range Try.underlying23 rfl (by kernel_rfl) ?_) | (refine wpList_load_mid rfl 25 _ rfl w.heap.size 0 rfl (ccs c) _ R1.out.range Try.underlying25 rfl (by kernel_rfl) ?_) | (refine wpList_buildQ rfl 34 _ rfl [(0, .int .i64 (q : Int)), (1, .int .i64 1), (2, .bool true), (3, .agg #[.int .i64 0, .int .i64 (r : Int)]), (4, .agg (ccs c).toArray), (5, .int .i64 seq), (6, .slice a k cap)] rfl _ (built_vote (q : Int) 1 true 0 (r : Int) c seq a k cap l) ?_) | (rw [HX.out]; refine wpList_store_mid rfl 34 _ _ rfl wr.heap.size 0 (vcs (vF r c seq a k cap l q)).toArray rfl rfl TX.out (by kernel_rfl) (all_oneCell_toArray (vcs_one _)) ?_; first | rw [← HY.out] | (simp only [List.toList_toArray]; rw [← HY.out])))
      have S3 : Hid (Blk Y (w.heap.size + 1 + 1) (vcs odd)) := Q3.out.on (HB.out.trans (BY.out.mono hww))
      have S4 : Hid (Blk Y (w.heap.size + 1 + 1 + 1) [.int .i64 0, .int .i64 (r : Int)]) := Q4.out.on (HB.out.trans (BY.out.mono hww))
      have c30 := S3.out.cell 0 _ (vcs0 odd)
      rw [hof] at c30
      clear R1 R2 R4 c20 c21 HX HY TX ZX
      by_cases hqo : q = o
      · subst hqo
        have S3r := S3
        obtain ⟨Y2, hY2⟩ : ∃ Y2, Y2 = Y.setCells wr.heap.size 0 (vcs odd) := ⟨_, rfl⟩
        have HV2 : Hid (Blk Y2 wr.heap.size (vcs odd)) := by rw [hY2]; exact blk_cells HVY.out rfl
        have BY2 : Hid (Below wr.heap.size wr Y2) := by rw [hY2]; exact below_cells (Nat.le_refl _) _ _ _ BY.out
        have TY := hide HVY.out.there
        have HY2 := hide hY2
        obtain ⟨Y3, hY3⟩ : ∃ Y3, Y3 = Y2.setCells wr.heap.size 3 [.int .i64 0, .int .i64 (r : Int)] := ⟨_, rfl⟩
        obtain ⟨Y4, hY4⟩ : ∃ Y4, Y4 = Y3.setCell ⟨wr.heap.size, 2, none⟩ (.bool false) := ⟨_, rfl⟩
        have HV3 : Hid (Blk Y3 wr.heap.size ((vcs odd).set 3 (.int .i64 0) |>.set 4 (.int .i64 (r : Int)))) := by rw [hY3]; exact (HV2.out.setAt 3 _).setAt 4 _
        have HV4 : Hid (Blk Y4 wr.heap.size (vcs (oF odd (r : Int)))) := by rw [hY4]; exact HV3.out.setAt 2 _
        have BY3 : Hid (Below wr.heap.size wr Y3) := by rw [hY3]; exact below_cells (Nat.le_refl _) _ _ _ BY2.out
        have BY4 : Hid (Below wr.heap.size wr Y4) := by rw [hY4]; exact below_store BY3.out (Nat.le_refl _) _
        have TY2 : Hid (Y2.there wr.heap.size 3 2) := fun j hj => by have := HV2.out.there (3 + j) (by show 3 + j < 15; omega); rwa [Nat.zero_add] at this
        have S4b : Hid (Blk Y2 (w.heap.size + 1 + 1 + 1) [.int .i64 0, .int .i64 (r : Int)]) := Q4.out.on (HB.out.trans (BY2.out.mono hww))
        have HY3 := hide hY3
        have HY4 := hide hY4
        have t2 := HV3.out.thaw 2
        have v2 := HV3.out.cell 2 _ (by show _ = some (.bool odd.same); rfl)
        clear hY2 hY3 hY4 S4
        go_upto_region 10 with (first | (refine wpList_load_mid rfl 34 _ rfl (w.heap.size + 1 + 1) 0 rfl (vcs odd) _ S3.out.range Try.underlying34 rfl (by kernel_rfl) ?_) | (refine wpList_store_mid rfl 34 _ _ rfl wr.heap.size 0 (vcs odd).toArray rfl rfl TY.out (by kernel_rfl) (all_oneCell_toArray (vcs_one _)) ?_; first | rw [← HY2.out] | (simp only [List.toList_toArray]; rw [← HY2.out])))
        go_upto_region 11 with (first | (refine wpList_load_mid rfl 23 _ rfl (w.heap.size + 1 + 1 + 1) 0 rfl [.int .i64 0, .int .i64 (r : Int)] _ S4b.out.range Try.underlying23 rfl (by kernel_rfl) ?_) | (refine wpList_store_mid rfl 23 _ _ rfl wr.heap.size 3 #[.int .i64 0, .int .i64 (r : Int)] rfl rfl TY2.out (by kernel_rfl) (by kernel_rfl) ?_; first | rw [← HY3.out] | (simp only [List.toList_toArray]; rw [← HY3.out])))
        go_upto_region 12 with fail
        rw [← HY4.out]
        obtain ⟨fq, hfq⟩ : ∃ fq, fq = aF odd r c seq a k cap l q := ⟨_, rfl⟩
        have HFQ : Hid (aF odd r c seq a k cap l q = fq) := hfq.symm
        have HFZ : Hid (Blk Y4 wr.heap.size (vcs fq)) := by rw [hfq, show aF odd r c seq a k cap l q = oF odd (r : Int) from by unfold aF; rw [if_pos hof.symm]]; exact HV4.out
        have HO1 := hide (vcs_one fq)
        have HTZ : Hid (Two Y4 U.heap.size u14 u15 ((List.range q).map (aF odd r c seq a k cap l)) (((List.range q).filter (rF odd r)).map (aF odd r c seq a k cap l))) := HTW.out _ BY4.out
        have BZ : Hid (Below U.heap.size U Y4) := HB.out.trans (BY4.out.mono hww)
        have hwz : wr.heap.size < Y4.heap.size := HFZ.out.lt
        clear hfq
        rw [HFQ.out] at HSA HSB
        generalize (List.range q).map (aF odd r c seq a k cap l) = fl at *
        generalize ((List.range q).filter (rF odd r)).map (aF odd r c seq a k cap l) = gl at *
        go_upto_region 13 with (first | (refine wpList_load_mid rfl 34 _ rfl wr.heap.size 0 rfl (vcs fq) _ HFZ.out.range Try.underlying34 rfl (by kernel_rfl) ?_) | (refine wpList_buildOne rfl 29 34 _ rfl 15 (vcs fq) rfl rfl i0 _ Try.underlying29 hii hz0 hz1 (by omega) (by omega) ?_) | (at_builtin; refine wpList_append_own_at _ rfl _ _ 29 rfl U.heap.size 34 i0 _ 15 168 Try.underlying29 hii hz0 hz1 hz2 (by kernel_rfl) (by decide) u14 _ _ rfl (World.ownsRow.alloc HTZ.out.left _) ⟨Y4.heap.size, 0, none⟩ 1 1 (vcs fq) rfl rfl (rowVQ_new _ _) HO1.out (by unfold maxLen; omega) (by omega) (by simp; omega) ?_; intro w1v w1 hown4 hgrow4 hnil4 hloc4; have HO4w1 := hide hown4; have HG4w1 := hide hgrow4; have HLLw1 := hide hloc4; clear hown4 hgrow4 hnil4 hloc4))
        have BW1 : Hid (Below U.heap.size U w1) := (BZ.out.alloc (by omega) _).grown HG4w1.out (by simp; omega) (fun j hj => (HTZ.out.lt j hj).1)
        have HT1 : Hid (Two w1 U.heap.size w1v u15 (fl ++ [fq]) gl) := Two.push (HTZ.out.below ((Below.refl _ _).alloc (Nat.le_refl _) _) (Nat.le_refl _)) HO4w1.out HG4w1.out (by have := HLLw1.out; simpa using this)
        have HF1 : Hid (Blk w1 wr.heap.size (vcs fq)) := (HFZ.out.on ((Below.refl _ _).alloc (Nat.le_refl _) _)).of_block (HG4w1.out.block _ (by simp; omega) (fun e => by have := HTL.out _ e.symm; omega))
        have S3b : Hid (Blk w1 (w.heap.size + 1 + 1) (vcs odd)) := Q3.out.on BW1.out
        have c31 := S3b.out.cell 0 _ (vcs0 odd)
        rw [hof] at c31
        have hw1 := BW1.out.size
        rw [← HSA.out] at HT1
        have HT2 : Hid (Two w1 U.heap.size w1v u15 ((List.range (q + 1)).map (aF odd r c seq a k cap l)) (((List.range (q + 1)).filter (rF odd r)).map (aF odd r c seq a k cap l))) := by show Two _ _ _ _ _ _; rw [HSB.out, if_neg (by unfold rF; rw [hof]; simp)]; exact HT1.out
        go_wp2
        go_roundw
        case rel => exact ⟨q + 1, by go_num, by omega, HT2, BW1⟩
        case measure => simp [intOf]; omega
      · have HFE : Hid (aF odd r c seq a k cap l q = (vF r c seq a k cap l q)) := by show _ = _; unfold aF; rw [if_neg (by rw [hof]; omega)]
        obtain ⟨fq, hfq⟩ : ∃ fq, fq = aF odd r c seq a k cap l q := ⟨_, rfl⟩
        have HFQ : Hid (aF odd r c seq a k cap l q = fq) := hfq.symm
        have HFZ : Hid (Blk Y wr.heap.size (vcs fq)) := by rw [hfq, HFE.out]; exact HVY.out
        have HO1 := hide (vcs_one fq)
        have HTZ : Hid (Two Y U.heap.size u14 u15 ((List.range q).map (aF odd r c seq a k cap l)) (((List.range q).filter (rF odd r)).map (aF odd r c seq a k cap l))) := HTY
        have BZ : Hid (Below U.heap.size U Y) := HB.out.trans (BY.out.mono hww)
        have hwz : wr.heap.size < Y.heap.size := HFZ.out.lt
        clear hfq
        rw [HFQ.out] at HSA HSB
        generalize (List.range q).map (aF odd r c seq a k cap l) = fl at *
        generalize ((List.range q).filter (rF odd r)).map (aF odd r c seq a k cap l) = gl at *
        go_upto_region 13 with (first | (refine wpList_load_mid rfl 34 _ rfl wr.heap.size 0 rfl (vcs fq) _ HFZ.out.range Try.underlying34 rfl (by kernel_rfl) ?_) | (refine wpList_buildOne rfl 29 34 _ rfl 15 (vcs fq) rfl rfl i0 _ Try.underlying29 hii hz0 hz1 (by omega) (by omega) ?_) | (at_builtin; refine wpList_append_own_at _ rfl _ _ 29 rfl U.heap.size 34 i0 _ 15 168 Try.underlying29 hii hz0 hz1 hz2 (by kernel_rfl) (by decide) u14 _ _ rfl (World.ownsRow.alloc HTZ.out.left _) ⟨Y.heap.size, 0, none⟩ 1 1 (vcs fq) rfl rfl (rowVQ_new _ _) HO1.out (by unfold maxLen; omega) (by omega) (by simp; omega) ?_; intro w1v w1 hown4 hgrow4 hnil4 hloc4; have HO4w1 := hide hown4; have HG4w1 := hide hgrow4; have HLLw1 := hide hloc4; clear hown4 hgrow4 hnil4 hloc4))
        have BW1 : Hid (Below U.heap.size U w1) := (BZ.out.alloc (by omega) _).grown HG4w1.out (by simp; omega) (fun j hj => (HTZ.out.lt j hj).1)
        have HT1 : Hid (Two w1 U.heap.size w1v u15 (fl ++ [fq]) gl) := Two.push (HTZ.out.below ((Below.refl _ _).alloc (Nat.le_refl _) _) (Nat.le_refl _)) HO4w1.out HG4w1.out (by have := HLLw1.out; simpa using this)
        have HF1 : Hid (Blk w1 wr.heap.size (vcs fq)) := (HFZ.out.on ((Below.refl _ _).alloc (Nat.le_refl _) _)).of_block (HG4w1.out.block _ (by simp; omega) (fun e => by have := HTL.out _ e.symm; omega))
        have S3b : Hid (Blk w1 (w.heap.size + 1 + 1) (vcs odd)) := Q3.out.on BW1.out
        have c31 := S3b.out.cell 0 _ (vcs0 odd)
        rw [hof] at c31
        have hw1 := BW1.out.size
        rw [← HSA.out] at HT1
        by_cases hqr : q = r
        · subst hqr
          have HT2 : Hid (Two w1 U.heap.size w1v u15 ((List.range (q + 1)).map (aF odd q c seq a k cap l)) (((List.range (q + 1)).filter (rF odd q)).map (aF odd q c seq a k cap l))) := by show Two _ _ _ _ _ _; rw [HSB.out, if_neg (by unfold rF; simp)]; exact HT1.out
          go_wp2
          go_roundw
          case rel => exact ⟨q + 1, by go_num, by omega, HT2, BW1⟩
          case measure => simp [intOf]; omega
        · have bqr : ((q : Int) != (r : Int)) = true := by rw [bne_iff_ne]; omega
          have bqo : ((q : Int) != (o : Int)) = true := by rw [bne_iff_ne]; omega
          go_wp2_with (first | (refine wpList_load_mid rfl 34 _ rfl wr.heap.size 0 rfl (vcs fq) _ HF1.out.range Try.underlying34 rfl (by kernel_rfl) ?_) | (refine wpList_buildOne rfl 29 34 _ rfl 15 (vcs fq) rfl rfl i0 _ Try.underlying29 hii hz0 hz1 (by omega) (by omega) ?_) | (at_builtin; refine wpList_append_own_at _ rfl _ _ 29 rfl U.heap.size 34 i0 _ 15 168 Try.underlying29 hii hz0 hz1 hz2 (by kernel_rfl) (by decide) u15 _ _ rfl (World.ownsRow.alloc HT1.out.right _) ⟨w1.heap.size, 0, none⟩ 1 1 (vcs fq) rfl rfl (rowVQ_new _ _) HO1.out (by unfold maxLen; omega) (by omega) (by simp; omega) ?_; intro w2v w2 hown4 hgrow4 hnil4 hloc4; have HO4w2 := hide hown4; have HG4w2 := hide hgrow4; have HLLw2 := hide hloc4; clear hown4 hgrow4 hnil4 hloc4))
          have BW2 : Hid (Below U.heap.size U w2) := (BW1.out.alloc (by omega) _).grown HG4w2.out (by simp; omega) (fun j hj => (HT1.out.swap.lt j hj).1)
          have HT2 : Hid (Two w2 U.heap.size w1v w2v ((List.range (q + 1)).map (aF odd r c seq a k cap l)) (((List.range (q + 1)).filter (rF odd r)).map (aF odd r c seq a k cap l))) := by
            show Two _ _ _ _ _ _
            rw [HSB.out, if_pos (by unfold rF; rw [hof, bqr, bqo]; rfl)]
            exact (Two.push (HT1.out.swap.below ((Below.refl _ _).alloc (Nat.le_refl _) _) (Nat.le_refl _)) HO4w2.out HG4w2.out (by have := HLLw2.out; simpa using this)).swap
          go_roundw
          case rel => exact ⟨q + 1, by go_num, by omega, HT2, BW2⟩
          case measure => simp [intOf]; omega
    · obtain rfl : q = n := by omega
      obtain ⟨AL, hAL⟩ : ∃ AL, AL = (List.range q).map (aF odd r c seq a k cap l) := ⟨_, rfl⟩
      obtain ⟨RL, hRL⟩ : ∃ RL, RL = ((List.range q).filter (rF odd r)).map (aF odd r c seq a k cap l) := ⟨_, rfl⟩
      rw [← hAL, ← hRL] at HT
      have HFS2 : Hid (fastQ q (r : Int) seq l RL = (1, seq, l)) := by show _ = _; rw [hRL]; exact HFS.out
      have HPL2 : Hid (planQ q (r : Int) (pickV AL (chQ q r (q / 2 + 1) pick)) = (2, c, seq, l)) := by show _ = _; rw [hAL]; exact HPL.out
      have HAN : Hid (AL.length = q) := by show _ = _; rw [hAL]; simp
      have hok : ∀ i : Nat, i < q → Vok U (aF odd r c seq a k cap l i) := fun i hi => by
        unfold aF
        split
        · exact ⟨HOV.out.seg, HOV.out.cap, HOV.out.bfr⟩
        · exact ⟨HS.out, HKC.out, by show -9223372036854775808 ≤ (i : Int) ∧ (i : Int) ≤ 9223372036854775807; omega⟩
      have HVA : Hid (∀ v ∈ AL, Vok wr v) := fun v hv => by
        rw [hAL] at hv
        obtain ⟨i, hi, rfl⟩ := List.mem_map.1 hv
        exact (hok i (List.mem_range.1 hi)).below HB.out (Nat.le_refl _)
      have HVR : Hid (∀ v ∈ RL, Vok wr v) := fun v hv => by
        rw [hRL] at hv
        obtain ⟨i, hi, rfl⟩ := List.mem_map.1 hv
        exact (hok i (List.mem_range.1 (List.mem_filter.1 hi).1)).below HB.out (Nat.le_refl _)
      clear hok
      clear hAL hRL HFS HPL
      obtain ⟨xa, xc, rfl, hxc, hrowx⟩ := rowS_of HT.out.left (List.length_map ..) (by decide) (fun cs hcs => by obtain ⟨v, _, rfl⟩ := List.mem_map.1 hcs; exact ⟨rfl, vcs_one v⟩)
      obtain ⟨ya, yc, rfl, hyc, hrowy⟩ := rowS_of HT.out.right (List.length_map ..) (by decide) (fun cs hcs => by obtain ⟨v, _, rfl⟩ := List.mem_map.1 hcs; exact ⟨rfl, vcs_one v⟩)
      have HRX := hide hrowx
      have HRY := hide hrowy
      have hU4 := Q4.out.lt
      have B0 : Hid (Below w.heap.size w wr) := BU.out.trans (HB.out.mono (by omega))
      have R1 : Hid (Blk wr w.heap.size (ccs c)) := Q1.out.on HB.out
      have R2 : Hid (Blk wr (w.heap.size + 1) [.int .i64 seq, .slice a k cap]) := Q2.out.on HB.out
      have S0 : Hid (SegI wr a k l) := HS.out.below HB.out (Nat.le_refl _)
      have P0 : Hid (SegI wr pa P pick) := HP.out.below HB.out (Nat.le_refl _)
      have HFIT : Hid (Fit l) := HS.out.2.2.2
      clear HT hrowx hrowy hxc hyc HB BU Q1 Q2 Q3 Q4 HS HP HOV
      go_wp2_with (first | (refine wpList_load_mid rfl 28 _ rfl (w.heap.size + 1) 0 rfl [.int .i64 seq, .slice a k cap] _ R2.out.range Try.underlying28 rfl (by kernel_rfl) ?_))
      refine (fast_any q r seq a k cap l ya yc RL wr S0.out HKC.out HRY.out HVR.out).mono ?_
      rintro e w1 ⟨ua, uc, rfl, ho1, hb1⟩
      rw [HFS2.out] at ho1 ⊢
      dsimp only at ho1 ⊢
      obtain ⟨X1, hX1⟩ : ∃ X1, X1 = w1.alloc (.cells [.int .i64 0, .slice none 0 0].toArray 28) := ⟨_, rfl⟩
      have ZX1 : Hid (Blk X1 w1.heap.size [.int .i64 0, .slice none 0 0]) := by rw [hX1]; exact blk_new w1 28 [.int .i64 0, .slice none 0 0]
      have TX1 := hide ZX1.out.there
      obtain ⟨Y1, hY1⟩ : ∃ Y1, Y1 = X1.setCells w1.heap.size 0 [.int .i64 seq, .slice ua l.length uc] := ⟨_, rfl⟩
      have HP1 : Hid (Blk Y1 w1.heap.size [.int .i64 seq, .slice ua l.length uc]) := by rw [hY1]; exact blk_cells ZX1.out rfl
      have HW1 : Hid (Below w1.heap.size w1 Y1) := by rw [hY1]; exact below_cells (Nat.le_refl _) _ _ _ (by rw [hX1]; exact (Below.refl _ _).alloc (Nat.le_refl _) _)
      have HS1 : Hid (SegI Y1 ua l.length l) := by
        obtain ⟨u', t', he, -, hseg⟩ := own_segI ho1 HFIT.out
        injection he with e1 e2 e3
        rw [e1]; exact hseg.below HW1.out (Nat.le_refl _)
      have HX1 : Hid (w1.alloc (.cells #[.int .i64 0, .slice none 0 0] 28) = X1) := hX1.symm
      have HY1 := hide hY1
      have HV1 : Hid (Below wr.heap.size wr Y1) := hb1.trans (HW1.out.mono hb1.size)
      have B1 : Hid (Below w.heap.size w Y1) := B0.out.trans (HV1.out.mono B0.out.size)
      have R2b : Hid (Blk Y1 (w.heap.size + 1) [.int .i64 seq, .slice a k cap]) := R2.out.on HV1.out
      have S1 : Hid (SegI Y1 a k l) := S0.out.below HV1.out (Nat.le_refl _)
      clear hX1 hY1 hb1 ho1
      go_wp2_with (first | (rw [HX1.out]; refine wpList_store_mid rfl 28 _ _ rfl w1.heap.size 0 #[.int .i64 seq, .slice ua l.length uc] rfl rfl TX1.out (by kernel_rfl) (by kernel_rfl) ?_; first | rw [← HY1.out] | (simp only [List.toList_toArray]; rw [← HY1.out])) | (refine wpList_load_mid rfl 28 _ rfl w1.heap.size 0 rfl [.int .i64 seq, .slice ua l.length uc] _ HP1.out.range Try.underlying28 rfl (by kernel_rfl) ?_) | (refine wpList_load_mid rfl 28 _ rfl (w.heap.size + 1) 0 rfl [.int .i64 seq, .slice a k cap] _ R2b.out.range Try.underlying28 rfl (by kernel_rfl) ?_))
      refine (sameAttr_any seq seq _ _ _ _ _ _ l l _ HS1.out S1.out (b := true) (by simp [sameB])).mono ?_
      rintro e w3 ⟨rfl, hb3⟩
      have HV3 : Hid (Below wr.heap.size wr w3) := HV1.out.trans (hb3.mono HV1.out.size)
      have B3 : Hid (Below w.heap.size w w3) := B0.out.trans (HV3.out.mono B0.out.size)
      have P3 : Hid (SegI w3 pa P pick) := P0.out.below HV3.out (Nat.le_refl _)
      clear hb3
      go_upto_region 19 with fail
      have hqq : q = 3 ∨ q = 5 ∨ q = 7 := sz_nat HZ.out
      have HCH := chosen_any q (q / 2 + 1) (r : Int) pa P pc pick w3 hn7 (by omega) hP P3.out
      rw [show ((q / 2 + 1 : Nat) : Int) = (q : Int) / 2 + 1 by omega] at HCH
      have HCH2 := hide HCH
      clear HCH
      go_wp2_with fail
      refine HCH2.out.mono ?_
      rintro e w4 ⟨iv, rfl, ho4, hb4⟩
      obtain ⟨ia, ic, rfl, hic, hids⟩ := own_segI ho4 (fit_of (fun x hx => by have := HCF.out.2.1 x hx; omega))
      have HIDS := hide hids
      have HV4 : Hid (Below wr.heap.size wr w4) := HV3.out.trans (hb4.mono HV3.out.size)
      have B4 : Hid (Below w.heap.size w w4) := B0.out.trans (HV4.out.mono B0.out.size)
      have R1c : Hid (Blk w4 w.heap.size (ccs c)) := R1.out.on HV4.out
      have R2c : Hid (Blk w4 (w.heap.size + 1) [.int .i64 seq, .slice a k cap]) := R2.out.on HV4.out
      have S4c : Hid (SegI w4 a k l) := S0.out.below HV4.out (Nat.le_refl _)
      have HAC : Hid (Calls Try.prog 12 #[.int .i64 (q : Int), .int .i64 (r : Int), .slice xa AL.length xc, .slice ia (chQ q r (q / 2 + 1) pick).length ic, .agg (ccs c).toArray, .agg #[.int .i64 seq, .slice a k cap]] w4 fun e w' => e = .returned (.bool true) ∧ Below w4.heap.size w4 w') :=
        accepts_any q r xa AL.length xc AL ia _ ic _ c seq a k cap l w4 (HRX.out.below HV4.out (Nat.le_refl _) (by decide)) (fun v hv => (HVA.out v hv).below HV4.out (Nat.le_refl _)) HIDS.out (fun x hx => by have := HCF.out.2.1 x hx; have := HAN.out; omega) (by have := HCF.out.2.2.1; omega) S4c.out (by omega) HPL2.out
      clear ho4 hb4 hids HIDS HRX HVA
      go_wp2_with (first | (refine wpList_load_mid rfl 25 _ rfl w.heap.size 0 rfl (ccs c) _ R1c.out.range Try.underlying25 rfl (by kernel_rfl) ?_) | (refine wpList_load_mid rfl 28 _ rfl (w.heap.size + 1) 0 rfl [.int .i64 seq, .slice a k cap] _ R2c.out.range Try.underlying28 rfl (by kernel_rfl) ?_))
      refine HAC.out.mono ?_
      rintro e w5 ⟨rfl, hb5⟩
      have HB5 := hide (B4.out.trans (hb5.mono B4.out.size))
      clear hb5
      go_wp2
      go_ret
      exact ⟨rfl, HB5.out⟩
end Go.Proofs.Ytpbbbbmnboeffaa
