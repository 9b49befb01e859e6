/- The contract of the statements' own chosen. -/
import Derived.Test.YtpbbbbmnboeffaaBlk
import Derived.Test.YtpbbbbmnboeffaaVLit
import Derived.Test.YtpbbbbmnboeffaaQVote
import Derived.Deep.Cut
namespace Go.Proofs.Ytpbbbbmnboeffaa
open Go.RowKit Go.Wire1

/-- One number looked at. -/
def stQ (n but : Int) (k : Nat) (l : List Int) (x : Int) : List Int := if l.length < k then (if x < 0 ∨ n ≤ x ∨ x = but ∨ x ∈ l then l else l ++ [x]) else l
def chL (n : Nat) (pick : List Int) : List Int := pick ++ (List.range n).map (fun i : Nat => (i : Int))
/-- The numbers that chosen gives. -/
def chQ (n : Nat) (but : Int) (k : Nat) (pick : List Int) : List Int := (chL n pick).foldl (stQ n but k) []
theorem chL_len (n : Nat) (pick : List Int) : (chL n pick).length = pick.length + n := by simp [chL]
theorem stQ_full {n but : Int} {k : Nat} {l : List Int} (h : k ≤ l.length) (xs : List Int) : xs.foldl (stQ n but k) l = l := by
  induction xs with
  | nil => rfl
  | cons x r ih => rw [List.foldl_cons, show stQ n but k l x = l by unfold stQ; rw [if_neg (by omega)]]; exact ih
theorem foldl_take_succ {α β : Type} {f : β → α → β} {b : β} {l : List α} {i : Nat} {x : α} (h : l[i]? = some x) : (l.take (i + 1)).foldl f b = f ((l.take i).foldl f b) x := by
  rw [List.take_add_one, h, List.foldl_append]; rfl
/-- Which numbers are in the list: a row of seven. -/
def inC (l : List Int) : List Value := (List.range 7).map fun i : Nat => .bool (decide ((i : Int) ∈ l))
theorem inC_at (l : List Int) {i : Nat} (h : i < 7) : (inC l)[i]? = some (.bool (decide ((i : Int) ∈ l))) := by
  unfold inC
  rw [List.getElem?_map, List.getElem?_range h]; rfl
theorem inC_set (l : List Int) {i : Nat} (_h : i < 7) : (inC l).set i (.bool true) = inC (l ++ [(i : Int)]) := by
  apply List.ext_getElem?
  intro j
  rw [List.getElem?_set]
  by_cases hj : j < 7
  · rw [inC_at _ hj]
    by_cases e : i = j
    · subst e
      rw [if_pos rfl, if_pos (by simpa [inC] using hj), inC_at _ hj, decide_eq_true (List.mem_append_right _ (List.mem_singleton.2 rfl))]
    · rw [if_neg e, inC_at _ hj]
      have : ((j : Int) ∈ l ++ [(i : Int)]) ↔ (j : Int) ∈ l := by
        rw [List.mem_append, List.mem_singleton]
        constructor
        · rintro (h | h)
          · exact h
          · omega
        · exact .inl
      simp only [this]
  · rw [if_neg (by omega), List.getElem?_eq_none (by simp [inC]; omega), List.getElem?_eq_none (by simp [inC]; omega)]
theorem chQ_inv {n but : Int} {k : Nat} (xs : List Int) (l : List Int) (h1 : l.Nodup) (h2 : ∀ x ∈ l, 0 ≤ x ∧ x < n ∧ x ≠ but) : (xs.foldl (stQ n but k) l).Nodup ∧ (∀ x ∈ xs.foldl (stQ n but k) l, 0 ≤ x ∧ x < n ∧ x ≠ but) ∧ ((xs.foldl (stQ n but k) l).length < k → ∀ x ∈ xs, 0 ≤ x → x < n → x ≠ but → x ∈ xs.foldl (stQ n but k) l) ∧ (∀ x ∈ l, x ∈ xs.foldl (stQ n but k) l) ∧ (l.length ≤ k → (xs.foldl (stQ n but k) l).length ≤ k) := by
  induction xs generalizing l with
  | nil => exact ⟨h1, h2, fun _ => (fun x hx => by cases hx), fun x hx => hx, fun h => h⟩
  | cons y r ih =>
    rw [List.foldl_cons]
    have hs : (stQ n but k l y).Nodup ∧ (∀ x ∈ stQ n but k l y, 0 ≤ x ∧ x < n ∧ x ≠ but) ∧ (∀ x ∈ l, x ∈ stQ n but k l y) ∧ (l.length ≤ k → (stQ n but k l y).length ≤ k) := by
      unfold stQ
      split
      · split
        · exact ⟨h1, h2, fun x h => h, fun h => h⟩
        · rename_i hk hn
          refine ⟨?_, ?_, fun x hx => List.mem_append_left _ hx, fun _ => by rw [List.length_append, List.length_singleton]; omega⟩
          · rw [List.nodup_append]
            exact ⟨h1, by simp, fun a ha b hb e => by rw [List.mem_singleton] at hb; subst hb; subst e; exact hn (.inr (.inr (.inr ha)))⟩
          · intro x hx
            rcases List.mem_append.1 hx with hx | hx
            · exact h2 x hx
            · rw [List.mem_singleton] at hx
              subst hx
              refine ⟨?_, ?_, ?_⟩
              · exact Int.not_lt.1 fun h => hn (.inl h)
              · exact Int.not_le.1 fun h => hn (.inr (.inl h))
              · exact fun h => hn (.inr (.inr (.inl h)))
      · exact ⟨h1, h2, fun x h => h, fun h => h⟩
    obtain ⟨i1, i2, i3, i4, i5⟩ := ih _ hs.1 hs.2.1
    refine ⟨i1, i2, fun hlt x hx h0 hn hb => ?_, fun x hx => i4 x (hs.2.2.1 x hx), fun h => i5 (hs.2.2.2 h)⟩
    rcases List.mem_cons.1 hx with e | hx
    · subst e
      refine i4 x ?_
      by_cases hk : l.length < k
      · unfold stQ
        rw [if_pos hk]
        split
        · rename_i hc
          rcases hc with hc | hc | hc | hc
          · omega
          · omega
          · exact absurd hc hb
          · exact hc
        · exact List.mem_append_right _ (List.mem_singleton.2 rfl)
      · have hfull : stQ n but k l x = l := by unfold stQ; rw [if_neg hk]
        rw [hfull] at hlt
        rw [stQ_full (by omega)] at hlt
        omega
    · exact i3 hlt x hx h0 hn hb
theorem chQ_facts (n : Nat) (but : Int) (k : Nat) (pick : List Int) : (chQ n but k pick).Nodup ∧ (∀ x ∈ chQ n but k pick, 0 ≤ x ∧ x < (n : Int) ∧ x ≠ but) ∧ (chQ n but k pick).length ≤ k ∧ ((chQ n but k pick).length < k → ∀ i : Nat, i < n → (i : Int) ≠ but → (i : Int) ∈ chQ n but k pick) := by
  have h := chQ_inv (n := n) (but := but) (k := k) (chL n pick) [] List.nodup_nil (fun x h => by cases h)
  refine ⟨h.1, h.2.1, h.2.2.2.2 (Nat.zero_le _), fun hl i hi hb => h.2.2.1 hl i ?_ (by omega) (by omega) hb⟩
  unfold chL
  exact List.mem_append_right _ (List.mem_map.2 ⟨i, List.mem_range.2 hi, rfl⟩)

theorem c1_new {W wr : World} {z : Value} (hs : W.heap.size = wr.heap.size) : ∀ j u, [z][j]? = some u → (W.alloc (.cells #[z] 3)).cell? ((⟨wr.heap.size, 0, none⟩ : Addr).add j) = some u := fun j u hj => by
  match j, hj with
  | 0, hj =>
    rw [← hs, Addr.add_mid, World.cell?_alloc_at _ _ _ _ rfl]
    simpa using hj
set_option maxHeartbeats 4000000 in
set_option maxRecDepth 100000 in
theorem chosen_any (n k : Nat) (but : Int) (a : Option Addr) (P c : Nat) (pick : List Int) (w : World) (h7 : n ≤ 7) (hk7 : k ≤ 7) (hP : P ≤ 1152921504606846976) (h : SegI w a P pick) :
    Calls Try.prog 10 #[.int .i64 (n : Int), .int .i64 (k : Int), .int .i64 but, .slice a P c] w fun e w' => ∃ v, e = .returned v ∧ w'.ownsRow w.heap.size 3 1 v (chQ n but k pick).length ((chQ n but k pick).map (Value.int .i64)) ∧ Below w.heap.size w w' := by
  obtain ⟨i0, hi, hz0, hz1, hz2⟩ := info_parts Try.info3
  obtain ⟨U, hU⟩ : ∃ U, U = w.alloc (.cells #[.bool false, .bool false, .bool false, .bool false, .bool false, .bool false, .bool false] 43) := ⟨_, rfl⟩
  have BU : Hid (Below w.heap.size w U) := by rw [hU]; exact (Below.refl _ w).alloc (Nat.le_refl _) _
  have QU : Hid (Blk U w.heap.size (inC [])) := by rw [hU]; exact blk_new w 43 (inC [])
  have HS := hide h
  have HP : Hid (pick.length = P) := h.1
  have hUs : U.heap.size = w.heap.size + 1 := by rw [hU]; simp
  clear h
  have HUS := hide hUs
  clear hUs
  go_enter Try.func10, Try.ntmps10
  go_wp2_with fail
  rw [← hU]
  clear hU
  go_loopw [10, 11] (fun v i wr => ∃ q : Nat, i = .int .i64 (q : Int) ∧ q ≤ P + n ∧ Hid (wr.ownsRow (w.heap.size + 1) 3 1 v (((chL n pick).take q).foldl (stQ n but k) []).length ((((chL n pick).take q).foldl (stQ n but k) []).map (Value.int .i64))) ∧ Hid (Blk wr w.heap.size (inC (((chL n pick).take q).foldl (stQ n but k) []))) ∧ Hid (Below w.heap.size w wr)) (fun _ i _ => P + n - (intOf i).toNat)
  case atStart => exact ⟨0, rfl, Nat.zero_le _, World.ownsRow_nil _ _ _ _, QU, BU⟩
  case round =>
    obtain ⟨q, rfl, hq, HO, HQ, HB⟩ := hrel
    obtain ⟨L, hL⟩ : ∃ L, Hid (((chL n pick).take q).foldl (stQ n but k) [] = L) := ⟨_, rfl⟩
    have HF : Hid (L.Nodup ∧ (∀ x ∈ L, 0 ≤ x ∧ x < (n : Int) ∧ x ≠ but) ∧ L.length ≤ k) := by
      have := chQ_inv (n := n) (but := but) (k := k) ((chL n pick).take q) [] List.nodup_nil (fun x h => by cases h)
      rw [hL.out] at this
      exact ⟨this.1, this.2.1, this.2.2.2.2 (Nat.zero_le _)⟩
    rw [hL.out] at HO HQ
    have hlk := HF.out.2.2
    obtain ⟨la, lc, rfl, hlc, -⟩ := own_segI HO.out (fit_of (fun x hx => by have := HF.out.2.1 x hx; omega))
    by_cases hlt : q < P + n
    · by_cases hll : L.length < k
      · by_cases hqp : q < P
        · obtain ⟨b, off, rfl, hc⟩ := (HS.out.below HB.out (Nat.le_refl _)).2.2.1 (by omega)
          have cx := hc q hqp
          have HE : Hid (((chL n pick).take (q + 1)).foldl (stQ n but k) [] = stQ n but k L (pick.getD q 0)) := by
            show _ = _
            rw [foldl_take_succ (x := pick.getD q 0) (by unfold chL; rw [List.getElem?_append_left (by have := HP.out; omega), List.getD, List.getElem?_eq_getElem (by have := HP.out; omega)]; rfl), hL.out]
          clear hc
          generalize pick.getD q 0 = x at *
          by_cases h1 : x < 0
          · have HE2 : Hid (((chL n pick).take (q + 1)).foldl (stQ n but k) [] = L) := by show _ = _; rw [HE.out]; unfold stQ; rw [if_pos hll, if_pos (.inl h1)]
            go_wp2
            go_roundw
            case rel => exact ⟨q + 1, by go_num, by omega, by rw [HE2.out]; exact HO, by rw [HE2.out]; exact HQ, HB⟩
            case measure => simp [intOf]; omega
          · have g0 : 0 ≤ x := by omega
            by_cases h2 : (n : Int) ≤ x
            · have HE2 : Hid (((chL n pick).take (q + 1)).foldl (stQ n but k) [] = L) := by show _ = _; rw [HE.out]; unfold stQ; rw [if_pos hll, if_pos (.inr (.inl h2))]
              go_wp2
              go_roundw
              case rel => exact ⟨q + 1, by go_num, by omega, by rw [HE2.out]; exact HO, by rw [HE2.out]; exact HQ, HB⟩
              case measure => simp [intOf]; omega
            · have g1 : x < (n : Int) := by omega
              by_cases h3 : x = but
              · have b3 : (x == but) = true := beq_iff_eq.2 h3
                have HE2 : Hid (((chL n pick).take (q + 1)).foldl (stQ n but k) [] = L) := by show _ = _; rw [HE.out]; unfold stQ; rw [if_pos hll, if_pos (.inr (.inr (.inl h3)))]
                go_wp2
                go_roundw
                case rel => exact ⟨q + 1, by go_num, by omega, by rw [HE2.out]; exact HO, by rw [HE2.out]; exact HQ, HB⟩
                case measure => simp [intOf]; omega
              · have b3 : (x == but) = false := beq_eq_false_iff_ne.2 h3
                have hx7 : x.toNat < 7 := by omega
                have hxc : ((x.toNat : Nat) : Int) = x := Int.toNat_of_nonneg g0
                have HIN := HQ.out.cell x.toNat _ (inC_at L hx7)
                have HTH := HQ.out.thaw x.toNat
                rw [hxc] at HIN
                by_cases h4 : x ∈ L
                · rw [decide_eq_true h4] at HIN
                  have HE2 : Hid (((chL n pick).take (q + 1)).foldl (stQ n but k) [] = L) := by show _ = _; rw [HE.out]; unfold stQ; rw [if_pos hll, if_pos (.inr (.inr (.inr h4)))]
                  go_wp2
                  go_roundw
                  case rel => exact ⟨q + 1, by go_num, by omega, by rw [HE2.out]; exact HO, by rw [HE2.out]; exact HQ, HB⟩
                  case measure => simp [intOf]; omega
                · rw [decide_eq_false h4] at HIN
                  have HE2 : Hid (((chL n pick).take (q + 1)).foldl (stQ n but k) [] = L ++ [x]) := by show _ = _; rw [HE.out]; unfold stQ; rw [if_pos hll, if_neg (by rintro (h | h | h | h) <;> first | exact h1 h | exact h2 h | exact h3 h | exact h4 h)]
                  obtain ⟨W1, hW1⟩ : ∃ W1, W1 = wr.setCell ⟨w.heap.size, x.toNat, none⟩ (.bool true) := ⟨_, rfl⟩
                  have HQ1 : Hid (Blk W1 w.heap.size (inC (L ++ [x]))) := by
                    have h := HQ.out.setAt x.toNat (.bool true)
                    rw [inC_set L hx7, hxc] at h
                    rw [hW1]; exact h
                  have HB1 : Hid (Below w.heap.size w W1) := by rw [hW1]; exact below_store HB.out (Nat.le_refl _) _
                  have HO1 : Hid (W1.ownsRow (w.heap.size + 1) 3 1 (.slice la L.length lc) L.length (L.map (Value.int .i64))) := by
                    show World.ownsRow _ _ _ _ _ _ _
                    rw [hW1]
                    refine World.ownsRow.kept (row := some w.heap.size) HO.out ⟨rfl, rfl, rfl, by simp [World.setCell], fun i _ hne => heap_setCell_other wr ⟨w.heap.size, _, none⟩ i _ (fun e => hne (by rw [e]))⟩ ?_
                    refine .inr fun e => ?_
                    have := HO.out.lt w.heap.size e
                    omega
                  have hs1 : W1.heap.size = wr.heap.size := by rw [hW1]; simp [World.setCell]
                  have hs2 : w.heap.size < wr.heap.size := HQ.out.lt
                  clear HQ HO
                  have hlc2 : L.length < 8 := by omega
                  go_wp2_with (first | (at_builtin; rw [← hW1]; refine wpList_append_own _ rfl _ _ 26 rfl (w.heap.size + 1) 3 i0 (.int .i64 0) 1 8 Try.underlying26 hi hz0 hz1 hz2 rfl (by decide) _ _ _ rfl (HO1.out.alloc _) ⟨wr.heap.size, 0, none⟩ 1 1 [.int .i64 x] rfl rfl (c1_new hs1) (by intro u hu; simp at hu; subst hu; rfl) (by unfold maxLen; omega) (by omega) (by simp; omega) ?_; intro v' w1 hown' hgrow _; have HOW := hide hown'; have HGW := hide hgrow; clear hown' hgrow))
                  have HO2 : Hid (w1.ownsRow (w.heap.size + 1) 3 1 v' (L ++ [x]).length ((L ++ [x]).map (Value.int .i64))) := by
                    show World.ownsRow _ _ _ _ _ _ _
                    have := HOW.out
                    simpa using this
                  have HQ2 : Hid (Blk w1 w.heap.size (inC (L ++ [x]))) := by
                    refine (HQ1.out.on ((Below.refl _ _).alloc (Nat.le_refl _) _)).of_block (HGW.out.block _ (by simp; omega) (fun e => ?_))
                    have := HO1.out.lt w.heap.size e.symm
                    omega
                  have HB2 : Hid (Below w.heap.size w w1) := (HB1.out.alloc (by omega) _).grown HGW.out (by simp; omega) (fun j hj => by have := HO1.out.lt j hj; omega)
                  go_roundw
                  case rel => exact ⟨q + 1, by go_num, by omega, by rw [HE2.out]; exact HO2, by rw [HE2.out]; exact HQ2, HB2⟩
                  case measure => simp [intOf]; omega
        · have HE : Hid (((chL n pick).take (q + 1)).foldl (stQ n but k) [] = stQ n but k L ((q : Int) - (P : Int))) := by
            show _ = _
            rw [foldl_take_succ (x := (q : Int) - (P : Int)) (by
              unfold chL
              rw [List.getElem?_append_right (by have := HP.out; omega), List.getElem?_map, List.getElem?_range (by have := HP.out; omega)]
              have := HP.out
              simp only [Option.map_some, Option.some.injEq]
              omega), hL.out]
          go_upto_region 10 with fail
          generalize hxx : (q : Int) - (P : Int) = x at *
          by_cases h1 : x < 0
          · omega
          · have g0 : 0 ≤ x := by omega
            by_cases h2 : (n : Int) ≤ x
            · omega
            · have g1 : x < (n : Int) := by omega
              by_cases h3 : x = but
              · have b3 : (x == but) = true := beq_iff_eq.2 h3
                have HE2 : Hid (((chL n pick).take (q + 1)).foldl (stQ n but k) [] = L) := by show _ = _; rw [HE.out]; unfold stQ; rw [if_pos hll, if_pos (.inr (.inr (.inl h3)))]
                go_wp2
                go_roundw
                case rel => exact ⟨q + 1, by go_num, by omega, by rw [HE2.out]; exact HO, by rw [HE2.out]; exact HQ, HB⟩
                case measure => simp [intOf]; omega
              · have b3 : (x == but) = false := beq_eq_false_iff_ne.2 h3
                have hx7 : x.toNat < 7 := by omega
                have hxc : ((x.toNat : Nat) : Int) = x := Int.toNat_of_nonneg g0
                have HIN := HQ.out.cell x.toNat _ (inC_at L hx7)
                have HTH := HQ.out.thaw x.toNat
                rw [hxc] at HIN
                by_cases h4 : x ∈ L
                · rw [decide_eq_true h4] at HIN
                  have HE2 : Hid (((chL n pick).take (q + 1)).foldl (stQ n but k) [] = L) := by show _ = _; rw [HE.out]; unfold stQ; rw [if_pos hll, if_pos (.inr (.inr (.inr h4)))]
                  go_wp2
                  go_roundw
                  case rel => exact ⟨q + 1, by go_num, by omega, by rw [HE2.out]; exact HO, by rw [HE2.out]; exact HQ, HB⟩
                  case measure => simp [intOf]; omega
                · rw [decide_eq_false h4] at HIN
                  have HE2 : Hid (((chL n pick).take (q + 1)).foldl (stQ n but k) [] = L ++ [x]) := by show _ = _; rw [HE.out]; unfold stQ; rw [if_pos hll, if_neg (by rintro (h | h | h | h) <;> first | exact h1 h | exact h2 h | exact h3 h | exact h4 h)]
                  obtain ⟨W1, hW1⟩ : ∃ W1, W1 = wr.setCell ⟨w.heap.size, x.toNat, none⟩ (.bool true) := ⟨_, rfl⟩
                  have HQ1 : Hid (Blk W1 w.heap.size (inC (L ++ [x]))) := by
                    have h := HQ.out.setAt x.toNat (.bool true)
                    rw [inC_set L hx7, hxc] at h
                    rw [hW1]; exact h
                  have HB1 : Hid (Below w.heap.size w W1) := by rw [hW1]; exact below_store HB.out (Nat.le_refl _) _
                  have HO1 : Hid (W1.ownsRow (w.heap.size + 1) 3 1 (.slice la L.length lc) L.length (L.map (Value.int .i64))) := by
                    show World.ownsRow _ _ _ _ _ _ _
                    rw [hW1]
                    refine World.ownsRow.kept (row := some w.heap.size) HO.out ⟨rfl, rfl, rfl, by simp [World.setCell], fun i _ hne => heap_setCell_other wr ⟨w.heap.size, _, none⟩ i _ (fun e => hne (by rw [e]))⟩ ?_
                    refine .inr fun e => ?_
                    have := HO.out.lt w.heap.size e
                    omega
                  have hs1 : W1.heap.size = wr.heap.size := by rw [hW1]; simp [World.setCell]
                  have hs2 : w.heap.size < wr.heap.size := HQ.out.lt
                  clear HQ HO
                  have hlc2 : L.length < 8 := by omega
                  go_wp2_with (first | (at_builtin; rw [← hW1]; refine wpList_append_own _ rfl _ _ 26 rfl (w.heap.size + 1) 3 i0 (.int .i64 0) 1 8 Try.underlying26 hi hz0 hz1 hz2 rfl (by decide) _ _ _ rfl (HO1.out.alloc _) ⟨wr.heap.size, 0, none⟩ 1 1 [.int .i64 x] rfl rfl (c1_new hs1) (by intro u hu; simp at hu; subst hu; rfl) (by unfold maxLen; omega) (by omega) (by simp; omega) ?_; intro v' w1 hown' hgrow _; have HOW := hide hown'; have HGW := hide hgrow; clear hown' hgrow))
                  have HO2 : Hid (w1.ownsRow (w.heap.size + 1) 3 1 v' (L ++ [x]).length ((L ++ [x]).map (Value.int .i64))) := by
                    show World.ownsRow _ _ _ _ _ _ _
                    have := HOW.out
                    simpa using this
                  have HQ2 : Hid (Blk w1 w.heap.size (inC (L ++ [x]))) := by
                    refine (HQ1.out.on ((Below.refl _ _).alloc (Nat.le_refl _) _)).of_block (HGW.out.block _ (by simp; omega) (fun e => ?_))
                    have := HO1.out.lt w.heap.size e.symm
                    omega
                  have HB2 : Hid (Below w.heap.size w w1) := (HB1.out.alloc (by omega) _).grown HGW.out (by simp; omega) (fun j hj => by have := HO1.out.lt j hj; omega)
                  go_roundw
                  case rel => exact ⟨q + 1, by go_num, by omega, by rw [HE2.out]; exact HO2, by rw [HE2.out]; exact HQ2, HB2⟩
                  case measure => simp [intOf]; omega
      · have HE : Hid (chQ n but k pick = L) := by
          show _ = _
          unfold chQ
          rw [← List.take_append_drop q (chL n pick), List.foldl_append, hL.out, stQ_full (by omega)]
        go_wp2
        go_ret
        exact ⟨_, rfl, by rw [HE.out]; exact own_base HO.out (by omega), HB.out⟩
    · have HE : Hid (chQ n but k pick = L) := by
        show _ = _
        unfold chQ
        rw [← hL.out, List.take_of_length_le (by rw [chL_len]; have := HP.out; omega)]
      go_wp2
      go_ret
      exact ⟨_, rfl, by rw [HE.out]; exact own_base HO.out (by omega), HB.out⟩
end Go.Proofs.Ytpbbbbmnboeffaa
