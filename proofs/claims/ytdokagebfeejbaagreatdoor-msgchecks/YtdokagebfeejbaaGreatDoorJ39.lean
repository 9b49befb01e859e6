/- Texts of the proof, joined. -/
import Derived.Test.YtdokagebfeejbaaGreatDoorJ01
import Derived.Test.YtdokagebfeejbaaGreatDoorJ24
import Derived.Test.YtdokagebfeejbaaGreatDoorJ37
import Derived.Test.YtdokagebfeejbaaGreatDoorJ38
import Derived.Test.YtdokagebfeejbaaGreatDoorJ13
/- The contracts of the layouts' writing: numbers, votes, start, attrBytes, loadBytes. -/
namespace Go.Proofs.YtdokagebfeejbaaGreatDoor
open Go.RowKit Go.Wire1

/-- New bytes. -/
def Bts (w : World) (L : List Int) (r : Ending) (w' : World) : Prop := ∃ u, r = .returned u ∧ w'.ownsRow w.heap.size 5 1 u L.length (L.map (Value.int .u8)) ∧ Below w.heap.size w w'
theorem bts_box {w X w' : World} {L : List Int} {r : Ending} (hb : Below w.heap.size w X) (h : Bts X L r w') : Bts w L r w' := by
  obtain ⟨u, e, ho, b⟩ := h
  exact ⟨u, e, own_more ho hb.size, hb.trans (b.mono hb.size)⟩
theorem wp_join {w : World} {o : Oper} {a : Act} {K : Act → World → Prop} {Q : Exit → Act → World → Prop} (s x : Operand)
    (ho : o.op = .call { callee := .builtin .append, args := #[s, x], argTypes := #[42, 42] })
    (B C : Nat) (v u : Value) (l E M : List Int) (hM : Hid (l ++ E = M)) (hs : a.eval s = v) (hx : a.eval x = u) (hown : w.ownsRow B 5 1 v l.length (l.map (Value.int .u8))) (hsrc : w.ownsRow C 5 1 u E.length (E.map (Value.int .u8)))
    (hE : 0 < E.length) (hlen : l.length + E.length ≤ 1000000) (hB : B ≤ w.heap.size)
    (h : ∀ v' w', w'.ownsRow B 5 1 v' M.length (M.map (Value.int .u8)) → w.grownBy w' v.ownBlock → K (a.put o.dst v') w') : o.wp Tryz.prog a w K Q := by
  obtain ⟨i0, hi, hz0, hz1, hz2⟩ := info_parts Tryz.info5
  obtain ⟨g, cap, rfl, hc⟩ := own_cells hsrc hE
  obtain ⟨v', w', hr, h2, h3, _⟩ := run_append_own (P := Tryz.prog) w B 42 o.type 5 i0 (.int .u8 0) 1 1 Tryz.underlying42 hi hz0 hz1 hz2 rfl (by decide) v l.length (l.map (Value.int .u8)) hown ⟨g, 0, none⟩ E.length cap (E.map (Value.int .u8)) (by rw [List.length_map, Nat.mul_one]) hc (by intro y hy; obtain ⟨z, _, rfl⟩ := List.mem_map.1 hy; rfl) (by unfold maxLen; omega) (by omega) hB
  unfold Oper.wp execOp
  simp only [ho, resolve, invoke, builtin, Sem.run_bind, Sem.run_pure, Result.andThen_ok, List.map_toArray, List.map_cons, List.map_nil, hs, hx, hr]
  refine h v' w' ?_ h3
  rw [← hM.out, List.length_append, List.map_append]
  exact h2
theorem encF_pos (x : Nat) : 0 < (enc x).length := by show 0 < (encF 10 x).length; unfold encF; split <;> simp
theorem encF_ten (f x : Nat) : (encF f x).length ≤ f := by
  induction f generalizing x with
  | zero => simp [encF]
  | succ f ih =>
    unfold encF
    split
    · simp
    · have := ih (x / 128); simp; omega
theorem enc_ten (x : Nat) : (enc x).length ≤ 10 := encF_ten 10 x
set_option maxHeartbeats 1000000 in
set_option maxRecDepth 100000 in
theorem putPacked_any (x y : Nat) (w : World) (hx : x < 1152921504606846976) (hy : y < 1152921504606846976) :
    Calls Tryz.prog 76 #[.int .i64 (x : Int), .int .i64 (y : Int)] w fun r w' => Bts w (enc (8 * x + y)) r w' := by
  have P1 := fun W => hide (putUint_any (8 * x + y) W (by omega))
  have ee : (8 : Int) * (x : Int) + (y : Int) = ((8 * x + y : Nat) : Int) := by omega
  obtain ⟨z, hz⟩ : ∃ z, 8 * x + y = z := ⟨_, rfl⟩
  rw [hz] at P1 ee ⊢
  have hzb : z < 18446744073709551616 := by omega
  clear hz
  go_enter Tryz.func76, Tryz.ntmps76
  go_wp2_with fail
  refine (P1 _).out.mono ?_
  rintro e w1 ⟨v1, rfl, h1, b1⟩
  have R := hide (And.intro h1 b1)
  clear h1 b1
  go_wp2
  go_ret
  exact ⟨v1, rfl, R.out⟩
set_option maxHeartbeats 2000000 in
set_option maxRecDepth 100000 in
theorem putInst2_any (x y : Nat) (w : World) (hx : x < 1152921504606846976) (hy : y < 1152921504606846976) :
    Calls Tryz.prog 58 #[.agg #[.int .i64 (x : Int), .int .i64 (y : Int)]] w fun r w' => Bts w (enc (8 * y + x)) r w' := by
  have BB : ∀ o, Hid (Below w.heap.size w (w.alloc o)) := fun o => (Below.refl _ w).alloc (Nat.le_refl _) _
  go_enter Tryz.func58, Tryz.ntmps58
  go_wp2_with fail
  refine (putPacked_any y x _ hy hx).mono ?_
  rintro e w1 ⟨u, rfl, ho, hb⟩
  have R := hide (bts_box (BB _).out ⟨u, rfl, ho, hb⟩)
  clear ho hb
  go_wp2
  go_ret
  exact R.out
set_option maxHeartbeats 2000000 in
set_option maxRecDepth 100000 in
theorem putBallot2_any (x y : Nat) (w : World) (hx : x < 1152921504606846976) (hy : y < 1152921504606846976) :
    Calls Tryz.prog 59 #[.agg #[.int .i64 (x : Int), .int .i64 (y : Int)]] w fun r w' => Bts w (enc (8 * x + y)) r w' := by
  have BB : ∀ o, Hid (Below w.heap.size w (w.alloc o)) := fun o => (Below.refl _ w).alloc (Nat.le_refl _) _
  go_enter Tryz.func59, Tryz.ntmps59
  go_wp2_with fail
  refine (putPacked_any x y _ hx hy).mono ?_
  rintro e w1 ⟨u, rfl, ho, hb⟩
  have R := hide (bts_box (BB _).out ⟨u, rfl, ho, hb⟩)
  clear ho hb
  go_wp2
  go_ret
  exact R.out
def votP1 (st : Nat) (sm : Bool) : List Int := if st = 0 then [0] else [(st : Int), if sm then 1 else 0]
def votP2 (st : Nat) (sm : Bool) : List Int := [if sm then (st : Int) + 4 else (st : Int)]
set_option maxHeartbeats 2000000 in
set_option maxRecDepth 100000 in
theorem putVote2_same (st : Nat) (h1 : st < 128) (w : World) : Calls Tryz.prog 60 #[.int .i64 (st : Int), .bool true] w fun r w' => Bts w ([(st : Int) + 4]) r w' := by
  go_enter Tryz.func60, Tryz.ntmps60
  go_wp2
  go_ret
  exact ⟨_, rfl, own_one w _ (Nat.le_refl _) _, (Below.refl _ w).alloc (Nat.le_refl _) _⟩
set_option maxHeartbeats 2000000 in
set_option maxRecDepth 100000 in
theorem putVote2_other (st : Nat) (h1 : st < 128) (w : World) : Calls Tryz.prog 60 #[.int .i64 (st : Int), .bool false] w fun r w' => Bts w ([(st : Int)]) r w' := by
  go_enter Tryz.func60, Tryz.ntmps60
  go_wp2
  go_ret
  exact ⟨_, rfl, own_one w _ (Nat.le_refl _) _, (Below.refl _ w).alloc (Nat.le_refl _) _⟩
theorem putVote2_any (st : Nat) (sm : Bool) (w : World) (h1 : st < 128) : Calls Tryz.prog 60 #[.int .i64 (st : Int), .bool sm] w fun r w' => Bts w (votP2 st sm) r w' := by
  unfold votP2
  cases sm with
  | true => exact putVote2_same st h1 w
  | false => exact putVote2_other st h1 w
set_option maxHeartbeats 2000000 in
set_option maxRecDepth 100000 in
theorem start2_any (kd x y : Nat) (w : World) (hkd : kd < 128) (hx : x < 1152921504606846976) (hy : y < 1152921504606846976) :
    Calls Tryz.prog 164 #[.agg #[.int .i64 (kd : Int), .int .i64 (x : Int), .int .i64 (y : Int)], .agg #[.int .i64 2, .func (.func 58) #[] #[], .func (.func 59) #[] #[], .func (.func 60) #[] #[], .func (.func 61) #[] #[], .func (.func 62) #[] #[], .func (.func 63) #[] #[]]] w fun r w' => Bts w ((kd : Int) :: (enc (8 * y + x))) r w' := by
  obtain ⟨X, hX⟩ : ∃ X, X = (w.alloc (.cells #[.int .i64 (kd : Int), .int .i64 (x : Int), .int .i64 (y : Int)] 88)).alloc (.cells #[.int .i64 2, .func (.func 58) #[] #[], .func (.func 59) #[] #[], .func (.func 60) #[] #[], .func (.func 61) #[] #[], .func (.func 62) #[] #[], .func (.func 63) #[] #[]] 73) := ⟨_, rfl⟩
  have Q0 := blk_new w 88 [.int .i64 (kd : Int), .int .i64 (x : Int), .int .i64 (y : Int)]
  have QL0 := blk_new (w.alloc (.cells #[.int .i64 (kd : Int), .int .i64 (x : Int), .int .i64 (y : Int)] 88)) 73 [.int .i64 2, .func (.func 58) #[] #[], .func (.func 59) #[] #[], .func (.func 60) #[] #[], .func (.func 61) #[] #[], .func (.func 62) #[] #[], .func (.func 63) #[] #[]]
  have QH : Hid (Blk X w.heap.size [.int .i64 (kd : Int), .int .i64 (x : Int), .int .i64 (y : Int)]) := by rw [hX]; exact Q0.on ((Below.refl _ _).alloc (Nat.le_refl _) _)
  have QL : Hid (Blk X (w.heap.size + 1) [.int .i64 2, .func (.func 58) #[] #[], .func (.func 59) #[] #[], .func (.func 60) #[] #[], .func (.func 61) #[] #[], .func (.func 62) #[] #[], .func (.func 63) #[] #[]]) := by rw [hX]; rw [World.size_alloc] at QL0; exact QL0
  have BX : Hid (Below w.heap.size w X) := by rw [hX]; exact ((Below.refl _ w).alloc (Nat.le_refl _) _).alloc (by simp) _
  clear Q0 QL0
  have p1 := encF_pos (8 * y + x)
  have t1 := enc_ten (8 * y + x)
  have PI := fun W => putInst2_any x y W hx hy
  generalize enc (8 * y + x) = EI at *
  obtain ⟨EE, hEE⟩ : ∃ EE, Hid ([(kd : Int)] ++ EI = EE) := ⟨_, rfl⟩
  rw [show (kd : Int) :: EI = EE from hEE.out]
  have HPI := hide PI
  clear PI
  go_enter Tryz.func164, Tryz.ntmps164
  go_upto_region 1 with fail
  rw [← hX]
  clear hX
  have S0 := belX X
  refine wp_region_held_drew (S := (fun w' => Below X.heap.size X w')) (by kernel_rfl) S0 (fun hHeld => ?_)
  refine tk 0 ?_
  refine wpAnyH_take (i := 1) (v := ?_) rfl (by kernel_rfl) (by kernel_rfl) (by kernel_rfl) (fun _ _ _ h => h) (Or.inl ⟨by rfl, ?_⟩) (by assumption) ?_
  rotate_left
  · intro w hSw
    try dsimp only at hSw
    have c1 := QH.out.c1 hSw 0 _ rfl
    go_simp
    try with_reducible rfl
  try simp only [Act.put, List.getElem_toArray, List.getElem_cons_succ, List.getElem_cons_zero, List.setIfInBounds_toArray, List.set_cons_zero, List.set_cons_succ]
  refine tk 2 ?_
  refine tk 4 ?_
  refine wpAnyH_take (i := 5) (v := ?_) rfl (by kernel_rfl) (by kernel_rfl) (by kernel_rfl) (fun _ _ _ h => h) (Or.inl ⟨by rfl, ?_⟩) (by assumption) ?_
  rotate_left
  · intro w hSw
    try dsimp only at hSw
    have c5 := QL.out.c1 hSw 1 _ rfl
    go_simp
    try with_reducible rfl
  try simp only [Act.put, List.getElem_toArray, List.getElem_cons_succ, List.getElem_cons_zero, List.setIfInBounds_toArray, List.set_cons_zero, List.set_cons_succ]
  refine tk 6 ?_
  refine tq 7 rfl (yieldsIf_load_mid (by rfl) 23 _ rfl w.heap.size 1 rfl [.int .i64 (x : Int), .int .i64 (y : Int)] _ (fun _ h => QH.out.sub h 1 [.int .i64 (x : Int), .int .i64 (y : Int)] rfl) Tryz.underlying23 rfl (by kernel_rfl)) ?_
  refine wpAnyH_ready (rs := [3, 8]) (by kernel_rfl) (by simp) ?_
  refine AllReadyH.cons rfl (fun K hK => ?_) (AllReadyH.cons rfl (fun K hK => ?_) AllReadyH.nil)
  · rw [if_pos (by rfl)]
    go_wp2_with fail
    have S1 := S0.alloc S0.size (.cells #[.int .u8 (kd : Int)] 5)
    have OA := hide (own_one X.drew X.heap.size (Nat.le_refl _) (kd : Int))
    refine hK.out _ _ S1 (fun hHeld => ?_)
    clear hK K
    try simp only [Act.put, List.getElem_toArray, List.getElem_cons_succ, List.getElem_cons_zero, List.setIfInBounds_toArray, List.set_cons_zero, List.set_cons_succ]
    refine wpAnyH_ready (rs := [8]) (by kernel_rfl) (by simp) ?_
    refine AllReadyH.cons rfl (fun K hK => ?_) AllReadyH.nil
    rw [if_pos (by rfl)]
    go_wp2_with fail
    refine (HPI.out _).mono ?_
    rintro e W1 ⟨u1, rfl, o1, b1⟩
    have P1 := S1.trans (b1.mono S1.size)
    refine hK.out _ _ P1 (fun hHeld => ?_)
    clear hK K
    try simp only [Act.put, List.getElem_toArray, List.getElem_cons_succ, List.getElem_cons_zero, List.setIfInBounds_toArray, List.set_cons_zero, List.set_cons_succ]
    refine wpAnyH_ready (rs := [9]) (by kernel_rfl) (by simp) ?_
    refine AllReadyH.cons rfl (fun K hK => ?_) AllReadyH.nil
    rw [if_pos (by rfl)]
    have oA := own_below OA.out b1 (Nat.le_refl _)
    refine wp_join _ _ rfl X.heap.size (X.drew.alloc (.cells #[.int .u8 (kd : Int)] 5)).heap.size (.slice (some ⟨X.heap.size, 0, none⟩) 1 1) u1 [(kd : Int)] EI EE hEE rfl rfl oA o1 p1 (by simp; omega) P1.size ?_
    intro v' W9 ho hg
    have P9 : Below X.heap.size X W9 := P1.grown hg P1.size (fun j hj => by cases hj; exact Nat.le_refl _)
    have RR : Hid (W9.ownsRow w.heap.size 5 1 v' EE.length (EE.map (Value.int .u8)) ∧ Below w.heap.size w W9) := ⟨own_more ho BX.out.size, BX.out.trans (P9.mono BX.out.size)⟩
    refine hK.out _ _ P9 (fun hHeld => ?_)
    clear hK K
    try simp only [Act.put, List.getElem_toArray, List.getElem_cons_succ, List.getElem_cons_zero, List.setIfInBounds_toArray, List.set_cons_zero, List.set_cons_succ]
    refine tk 10 ?_
    refine wpAnyH_done (by kernel_rfl) ?_ _
    go_wp2
    go_ret
    exact ⟨v', rfl, RR.out⟩
  · rw [if_pos (by rfl)]
    go_wp2_with fail
    refine (HPI.out _).mono ?_
    rintro e W1 ⟨u1, rfl, o1, b1⟩
    have P1 := S0.trans (b1.mono S0.size)
    refine hK.out _ _ P1 (fun hHeld => ?_)
    clear hK K
    try simp only [Act.put, List.getElem_toArray, List.getElem_cons_succ, List.getElem_cons_zero, List.setIfInBounds_toArray, List.set_cons_zero, List.set_cons_succ]
    refine wpAnyH_ready (rs := [3]) (by kernel_rfl) (by simp) ?_
    refine AllReadyH.cons rfl (fun K hK => ?_) AllReadyH.nil
    rw [if_pos (by rfl)]
    go_wp2_with fail
    have S2 := P1.alloc P1.size (.cells #[.int .u8 (kd : Int)] 5)
    have oB := own_one W1 X.heap.size P1.size (kd : Int)
    have o1' := own_below o1 ((Below.refl _ W1).alloc (Nat.le_refl _) (.cells #[.int .u8 (kd : Int)] 5)) (Nat.le_refl _)
    refine hK.out _ _ S2 (fun hHeld => ?_)
    clear hK K
    try simp only [Act.put, List.getElem_toArray, List.getElem_cons_succ, List.getElem_cons_zero, List.setIfInBounds_toArray, List.set_cons_zero, List.set_cons_succ]
    refine wpAnyH_ready (rs := [9]) (by kernel_rfl) (by simp) ?_
    refine AllReadyH.cons rfl (fun K hK => ?_) AllReadyH.nil
    rw [if_pos (by rfl)]
    refine wp_join _ _ rfl X.heap.size X.heap.size (.slice (some ⟨W1.heap.size, 0, none⟩) 1 1) u1 [(kd : Int)] EI EE hEE rfl rfl oB o1' p1 (by simp; omega) S2.size ?_
    intro v' W9 ho hg
    have P9 : Below X.heap.size X W9 := S2.grown hg S2.size (fun j hj => by cases hj; exact P1.size)
    have RR : Hid (W9.ownsRow w.heap.size 5 1 v' EE.length (EE.map (Value.int .u8)) ∧ Below w.heap.size w W9) := ⟨own_more ho BX.out.size, BX.out.trans (P9.mono BX.out.size)⟩
    refine hK.out _ _ P9 (fun hHeld => ?_)
    clear hK K
    try simp only [Act.put, List.getElem_toArray, List.getElem_cons_succ, List.getElem_cons_zero, List.setIfInBounds_toArray, List.set_cons_zero, List.set_cons_succ]
    refine tk 10 ?_
    refine wpAnyH_done (by kernel_rfl) ?_ _
    go_wp2
    go_ret
    exact ⟨v', rfl, RR.out⟩
end Go.Proofs.YtdokagebfeejbaaGreatDoor
/- The contracts of attrBytes and loadBytes. -/
namespace Go.Proofs.YtdokagebfeejbaaGreatDoor
open Go.RowKit Go.Wire1

/-- An attribute's bytes, a load's. -/
def attP (v : Int) (sq : Nat) (dl : List Int) : List Int := enc sq ++ packR v dl
def lodP (v : Int) (c : Cm) (sq : Nat) (dl : List Int) : List Int := encC c ++ attP v sq dl
set_option maxHeartbeats 2000000 in
set_option maxRecDepth 100000 in
theorem attr2_any (sq : Nat) (ua : Option Addr) (uk uc : Nat) (dl : List Int) (w : World) (hsq : sq < 9223372036854775808) (hI : SegI w ua uk dl) (hp0 : 0 < (packR 2 dl).length) (hp1 : (packR 2 dl).length ≤ 1000) :
    Calls Tryz.prog 170 #[.agg #[.int .i64 2, .func (.func 58) #[] #[], .func (.func 59) #[] #[], .func (.func 60) #[] #[], .func (.func 61) #[] #[], .func (.func 62) #[] #[], .func (.func 63) #[] #[]], .agg #[.int .i64 (sq : Int), .slice ua uk uc]] w fun r w' => Bts w (attP 2 sq dl) r w' := by
  obtain ⟨X, hX⟩ : ∃ X, X = (w.alloc (.cells #[.int .i64 2, .func (.func 58) #[] #[], .func (.func 59) #[] #[], .func (.func 60) #[] #[], .func (.func 61) #[] #[], .func (.func 62) #[] #[], .func (.func 63) #[] #[]] 73)).alloc (.cells #[.int .i64 (sq : Int), .slice ua uk uc] 90) := ⟨_, rfl⟩
  have Q0 := blk_new w 73 [.int .i64 2, .func (.func 58) #[] #[], .func (.func 59) #[] #[], .func (.func 60) #[] #[], .func (.func 61) #[] #[], .func (.func 62) #[] #[], .func (.func 63) #[] #[]]
  have QA0 := blk_new (w.alloc (.cells #[.int .i64 2, .func (.func 58) #[] #[], .func (.func 59) #[] #[], .func (.func 60) #[] #[], .func (.func 61) #[] #[], .func (.func 62) #[] #[], .func (.func 63) #[] #[]] 73)) 90 [.int .i64 (sq : Int), .slice ua uk uc]
  have QL : Hid (Blk X w.heap.size [.int .i64 2, .func (.func 58) #[] #[], .func (.func 59) #[] #[], .func (.func 60) #[] #[], .func (.func 61) #[] #[], .func (.func 62) #[] #[], .func (.func 63) #[] #[]]) := by rw [hX]; exact Q0.on ((Below.refl _ _).alloc (Nat.le_refl _) _)
  have QA : Hid (Blk X (w.heap.size + 1) [.int .i64 (sq : Int), .slice ua uk uc]) := by rw [hX]; rw [World.size_alloc] at QA0; exact QA0
  have BX : Hid (Below w.heap.size w X) := by rw [hX]; exact ((Below.refl _ w).alloc (Nat.le_refl _) _).alloc (by simp) _
  have HI : Hid (SegI X ua uk dl) := hI.below BX.out (Nat.le_refl _)
  have PK := hide (pack_any 2 ua uk uc dl X HI.out)
  have PU := fun W => hide (putUint_any sq W (by omega))
  have t1 := enc_ten sq
  unfold attP
  generalize packR 2 dl = PD at *
  generalize enc sq = ES at *
  obtain ⟨EE, hEE⟩ : ∃ EE, Hid (ES ++ PD = EE) := ⟨_, rfl⟩
  rw [hEE.out]
  have v0 := QL.out.cell 0 _ rfl
  have a0 := QA.out.cell 0 _ rfl
  have a1 := QA.out.cell 1 _ rfl
  clear Q0 QA0 hI
  go_enter Tryz.func170, Tryz.ntmps170
  go_upto_region 1 with fail
  rw [← hX]
  clear hX
  go_wp2_with fail
  refine PK.out.mono ?_
  rintro e w1 ⟨u1, rfl, o1, b1⟩
  have B1 : Hid (Below w.heap.size w w1) := BX.out.trans (b1.mono BX.out.size)
  have O1 := hide o1
  have a0' : w1.cell? ⟨w.heap.size + 1, 0, none⟩ = some (.int .i64 (sq : Int)) := (QA.out.on b1).cell 0 _ rfl
  clear o1 b1 v0 a0 a1 QL QA PK
  go_wp2_with fail
  refine (PU w1).out.mono ?_
  rintro e w2 ⟨v2, rfl, o2, b2⟩
  have B2 : Hid (Below w.heap.size w w2) := B1.out.trans (b2.mono B1.out.size)
  have O1' := hide (own_below O1.out b2 (Nat.le_refl _))
  have O2 := hide (own_more o2 (B' := w.heap.size) B1.out.size)
  have hs2 : w.heap.size ≤ w2.heap.size := B2.out.size
  clear o2 b2 O1 a0'
  go_wp2_with (first | (at_builtin; refine wpList_join rfl _ _ rfl w.heap.size X.heap.size v2 u1 ES PD EE hEE rfl rfl O2.out O1'.out hp0 (by omega) hs2 ?_))
  intro v' w3 ho hg
  have RR : Hid (w3.ownsRow w.heap.size 5 1 v' EE.length (EE.map (Value.int .u8)) ∧ Below w.heap.size w w3) := ⟨ho, B2.out.grown hg hs2 (fun j hj => (O2.out.lt j hj).1)⟩
  clear ho hg
  go_wp2
  go_ret
  exact ⟨v', rfl, RR.out⟩
set_option maxHeartbeats 2000000 in
set_option maxRecDepth 100000 in
theorem load2_any (c : Cm) (sq : Nat) (ua : Option Addr) (uk uc : Nat) (dl : List Int) (w : World) (hK : Knd w) (hk : c.key.size ≤ 140737488351232) (hk2 : c.key2.size ≤ 140737488351232) (hn1 : -9223372036854775808 ≤ c.n) (hn2 : c.n ≤ 9223372036854775807) (hz : chk 2 c = 0) (hsq : sq < 9223372036854775808) (hI : SegI w ua uk dl) (hp0 : 0 < (packR 2 dl).length) (hp1 : (packR 2 dl).length ≤ 1000) :
    Calls Tryz.prog 165 #[.agg #[.int .i64 c.kind, .int .i64 c.client, .int .i64 c.req, .string c.key, .string c.key2, .string c.val, .string c.old, .int .i64 c.n, .int .i64 (sq : Int), .slice ua uk uc], .agg #[.int .i64 2, .func (.func 58) #[] #[], .func (.func 59) #[] #[], .func (.func 60) #[] #[], .func (.func 61) #[] #[], .func (.func 62) #[] #[], .func (.func 63) #[] #[]]] w fun r w' => Bts w (lodP 2 c sq dl) r w' := by
  obtain ⟨X, hX⟩ : ∃ X, X = (w.alloc (.cells #[.int .i64 c.kind, .int .i64 c.client, .int .i64 c.req, .string c.key, .string c.key2, .string c.val, .string c.old, .int .i64 c.n, .int .i64 (sq : Int), .slice ua uk uc] 92)).alloc (.cells #[.int .i64 2, .func (.func 58) #[] #[], .func (.func 59) #[] #[], .func (.func 60) #[] #[], .func (.func 61) #[] #[], .func (.func 62) #[] #[], .func (.func 63) #[] #[]] 73) := ⟨_, rfl⟩
  have Q0 := blk_new w 92 [.int .i64 c.kind, .int .i64 c.client, .int .i64 c.req, .string c.key, .string c.key2, .string c.val, .string c.old, .int .i64 c.n, .int .i64 (sq : Int), .slice ua uk uc]
  have QL0 := blk_new (w.alloc (.cells #[.int .i64 c.kind, .int .i64 c.client, .int .i64 c.req, .string c.key, .string c.key2, .string c.val, .string c.old, .int .i64 c.n, .int .i64 (sq : Int), .slice ua uk uc] 92)) 73 [.int .i64 2, .func (.func 58) #[] #[], .func (.func 59) #[] #[], .func (.func 60) #[] #[], .func (.func 61) #[] #[], .func (.func 62) #[] #[], .func (.func 63) #[] #[]]
  have QA : Hid (Blk X w.heap.size [.int .i64 c.kind, .int .i64 c.client, .int .i64 c.req, .string c.key, .string c.key2, .string c.val, .string c.old, .int .i64 c.n, .int .i64 (sq : Int), .slice ua uk uc]) := by rw [hX]; exact Q0.on ((Below.refl _ _).alloc (Nat.le_refl _) _)
  have QL : Hid (Blk X (w.heap.size + 1) [.int .i64 2, .func (.func 58) #[] #[], .func (.func 59) #[] #[], .func (.func 60) #[] #[], .func (.func 61) #[] #[], .func (.func 62) #[] #[], .func (.func 63) #[] #[]]) := by rw [hX]; rw [World.size_alloc] at QL0; exact QL0
  have BX : Hid (Below w.heap.size w X) := by rw [hX]; exact ((Below.refl _ w).alloc (Nat.le_refl _) _).alloc (by simp) _
  have HI : Hid (SegI X ua uk dl) := hI.below BX.out (Nat.le_refl _)
  have EN := hide (encode_any 2 c X (hK.below BX.out (Nat.le_refl _)) hk hk2 hn1 hn2 hz)
  have AT := fun W (h : SegI W ua uk dl) => hide (attr2_any sq ua uk uc dl W hsq h hp0 hp1)
  have t1 := encC_le hz
  have t2 : (attP 2 sq dl).length ≤ 1010 := by unfold attP; rw [List.length_append]; have := enc_ten sq; omega
  have p2 : 0 < (attP 2 sq dl).length := by unfold attP; rw [List.length_append]; omega
  unfold lodP
  generalize attP 2 sq dl = AD at *
  generalize encC c = EC at *
  obtain ⟨EE, hEE⟩ : ∃ EE, Hid (EC ++ AD = EE) := ⟨_, rfl⟩
  rw [hEE.out]
  have a0 := QA.out.cell 0 _ rfl
  have a1 := QA.out.cell 1 _ rfl
  have a2 := QA.out.cell 2 _ rfl
  have a3 := QA.out.cell 3 _ rfl
  have a4 := QA.out.cell 4 _ rfl
  have a5 := QA.out.cell 5 _ rfl
  have a6 := QA.out.cell 6 _ rfl
  have a7 := QA.out.cell 7 _ rfl
  have v0 := QL.out.cell 0 _ rfl
  clear Q0 QL0 hI hz hK hp0 hp1
  go_enter Tryz.func165, Tryz.ntmps165
  go_upto_region 1 with fail
  rw [← hX]
  clear hX
  go_wp2_with fail
  refine EN.out.mono ?_
  rintro e w1 ⟨u1, rfl, o1, b1⟩
  have B1 : Hid (Below w.heap.size w w1) := BX.out.trans (b1.mono BX.out.size)
  have O1 := hide (own_more o1 (B' := w.heap.size) BX.out.size)
  have QL1 := hide (QL.out.on b1)
  have QA1 := hide (QA.out.on b1)
  have HI1 : Hid (SegI w1 ua uk dl) := HI.out.below b1 (Nat.le_refl _)
  clear o1 b1 v0 a0 a1 a2 a3 a4 a5 a6 a7 QL QA EN HI
  have c8 := QA1.out.cell 8 _ rfl
  have c9 := QA1.out.cell 9 _ rfl
  go_upto_region 2 with fail
  go_wp2_with (first | (refine wpList_load_mid rfl 73 _ rfl (w.heap.size + 1) 0 rfl [.int .i64 2, .func (.func 58) #[] #[], .func (.func 59) #[] #[], .func (.func 60) #[] #[], .func (.func 61) #[] #[], .func (.func 62) #[] #[], .func (.func 63) #[] #[]] _ QL1.out.range Tryz.underlying73 rfl (by kernel_rfl) ?_))
  refine (AT w1 HI1.out).out.mono ?_
  rintro e w2 ⟨v2, rfl, o2, b2⟩
  have B2 : Hid (Below w.heap.size w w2) := B1.out.trans (b2.mono B1.out.size)
  have O1' := hide (own_below O1.out b2 (Nat.le_refl _))
  have O2 := hide o2
  have hs2 : w.heap.size ≤ w2.heap.size := B2.out.size
  clear o2 b2 O1 c8 c9 QL1 QA1
  go_wp2_with (first | (at_builtin; refine wpList_join rfl _ _ rfl w.heap.size w1.heap.size u1 v2 EC AD EE hEE rfl rfl O1'.out O2.out p2 (by omega) hs2 ?_))
  intro v' w3 ho hg
  have RR : Hid (w3.ownsRow w.heap.size 5 1 v' EE.length (EE.map (Value.int .u8)) ∧ Below w.heap.size w w3) := ⟨ho, B2.out.grown hg hs2 (fun j hj => (O1'.out.lt j hj).1)⟩
  clear ho hg
  go_wp2
  go_ret
  exact ⟨v', rfl, RR.out⟩
end Go.Proofs.YtdokagebfeejbaaGreatDoor
