/- Texts of the proof, joined. -/
import Derived.Test.YtbdkelffncmkhaaGreatDoorJ36
import Derived.Test.YtbdkelffncmkhaaGreatDoorJ12
import Derived.Test.YtbdkelffncmkhaaGreatDoorJ02
import Derived.Test.YtbdkelffncmkhaaGreatDoorJ03
import Derived.Test.YtbdkelffncmkhaaGreatDoorJ04
import Derived.Laws.AppendOwnNone
import Derived.Test.YtbdkelffncmkhaaGreatDoorJ18
import Derived.Test.YtbdkelffncmkhaaGreatDoorJ01
import Derived.Test.YtbdkelffncmkhaaGreatDoorJ17
import Derived.Lib.AppendZerosOnto
import Derived.Lib.SliceRun
/- The contract of package command's Encode. -/
namespace Go.Proofs.YtbdkelffncmkhaaGreatDoor
open Go.RowKit Go.Wire1

def encR (v : Int) (c : Cm) : List Int := if chk v c = 0 then encC c else []
theorem own_one (w : World) (B : Nat) (hB : B ≤ w.heap.size) (z : Int) : (w.alloc (.cells #[.int .u8 z] 5)).ownsRow B 5 1 (.slice (some ⟨w.heap.size, 0, none⟩) 1 1) [z].length ([z].map (Value.int .u8)) :=
  ⟨rfl, .inr ⟨w.heap.size, 1, #[.int .u8 z], rfl, hB, heap_alloc_new w _, by simp, by unfold maxLen; omega, rfl, rfl⟩⟩
end Go.Proofs.YtbdkelffncmkhaaGreatDoor
/- The contracts of packPlain, packTight and Pack. -/
namespace Go.Proofs.YtbdkelffncmkhaaGreatDoor
open Go.RowKit Go.Wire1

/-- The array in a block of its own. -/
def ArrAt (w : World) (g : Nat) (l : List Int) : Prop := ∀ k, k < 7 → w.cell? ⟨g, k, none⟩ = some (.int .i64 (l.getD k 0))
theorem ArrAt.below {w w' : World} {g B : Nat} {l : List Int} (h : ArrAt w g l) (hb : Below B w w') (hg : g < B) : ArrAt w' g l := fun k hk => by
  rw [hb.cell (p := ⟨g, k, none⟩) hg]; exact h k hk
end Go.Proofs.YtbdkelffncmkhaaGreatDoor
/- The contract of Pack. -/
namespace Go.Proofs.YtbdkelffncmkhaaGreatDoor
open Go.RowKit Go.Wire1

end Go.Proofs.YtbdkelffncmkhaaGreatDoor
/- The contracts of the layouts' writing: numbers, votes, start, attrBytes, loadBytes. -/
namespace Go.Proofs.YtbdkelffncmkhaaGreatDoor
open Go.RowKit Go.Wire1

/-- New bytes. -/
def Bts (w : World) (L : List Int) (r : Ending) (w' : World) : Prop := ∃ u, r = .returned u ∧ w'.ownsRow w.heap.size 5 1 u L.length (L.map (Value.int .u8)) ∧ Below w.heap.size w w'
theorem bts_box {w X w' : World} {L : List Int} {r : Ending} (hb : Below w.heap.size w X) (h : Bts X L r w') : Bts w L r w' := by
  obtain ⟨u, e, ho, b⟩ := h
  exact ⟨u, e, own_more ho hb.size, hb.trans (b.mono hb.size)⟩
theorem wp_join {w : World} {o : Oper} {a : Act} {K : Act → World → Prop} {Q : Exit → Act → World → Prop} (s x : Operand)
    (ho : o.op = .call { callee := .builtin .append, args := #[s, x], argTypes := #[22, 22] })
    (B C : Nat) (v u : Value) (l E M : List Int) (hM : Hid (l ++ E = M)) (hs : a.eval s = v) (hx : a.eval x = u) (hown : w.ownsRow B 5 1 v l.length (l.map (Value.int .u8))) (hsrc : w.ownsRow C 5 1 u E.length (E.map (Value.int .u8)))
    (hE : 0 < E.length) (hlen : l.length + E.length ≤ 1000000) (hB : B ≤ w.heap.size)
    (h : ∀ v' w', w'.ownsRow B 5 1 v' M.length (M.map (Value.int .u8)) → w.grownBy w' v.ownBlock → K (a.put o.dst v') w') : o.wp Tryz.prog a w K Q := by
  obtain ⟨i0, hi, hz0, hz1, hz2⟩ := info_parts Tryz.info5
  obtain ⟨g, cap, rfl, hc⟩ := own_cells hsrc hE
  obtain ⟨v', w', hr, h2, h3, _⟩ := run_append_own (P := Tryz.prog) w B 22 o.type 5 i0 (.int .u8 0) 1 1 Tryz.underlying22 hi hz0 hz1 hz2 rfl (by decide) v l.length (l.map (Value.int .u8)) hown ⟨g, 0, none⟩ E.length cap (E.map (Value.int .u8)) (by rw [List.length_map, Nat.mul_one]) hc (by intro y hy; obtain ⟨z, _, rfl⟩ := List.mem_map.1 hy; rfl) (by unfold maxLen; omega) (by omega) hB
  unfold Oper.wp execOp
  simp only [ho, resolve, invoke, builtin, Sem.run_bind, Sem.run_pure, Result.andThen_ok, List.map_toArray, List.map_cons, List.map_nil, hs, hx, hr]
  refine h v' w' ?_ h3
  rw [← hM.out, List.length_append, List.map_append]
  exact h2
theorem encF_pos (x : Nat) : 0 < (enc x).length := by show 0 < (encF 10 x).length; unfold encF; split <;> simp
theorem encF_ten (f x : Nat) : (encF f x).length ≤ f := by
  induction f generalizing x with
  | zero => simp [encF]
  | succ f ih =>
    unfold encF
    split
    · simp
    · have := ih (x / 128); simp; omega
theorem enc_ten (x : Nat) : (enc x).length ≤ 10 := encF_ten 10 x
set_option maxHeartbeats 1000000 in
set_option maxRecDepth 100000 in
theorem putPacked_any (x y : Nat) (w : World) (hx : x < 1152921504606846976) (hy : y < 1152921504606846976) :
    Calls Tryz.prog 47 #[.int .i64 (x : Int), .int .i64 (y : Int)] w fun r w' => Bts w (enc (8 * x + y)) r w' := by
  have P1 := fun W => hide (putUint_any (8 * x + y) W (by omega))
  have ee : (8 : Int) * (x : Int) + (y : Int) = ((8 * x + y : Nat) : Int) := by omega
  obtain ⟨z, hz⟩ : ∃ z, 8 * x + y = z := ⟨_, rfl⟩
  rw [hz] at P1 ee ⊢
  have hzb : z < 18446744073709551616 := by omega
  clear hz
  go_enter Tryz.func47, Tryz.ntmps47
  go_wp2_with fail
  refine (P1 _).out.mono ?_
  rintro e w1 ⟨v1, rfl, h1, b1⟩
  have R := hide (And.intro h1 b1)
  clear h1 b1
  go_wp2
  go_ret
  exact ⟨v1, rfl, R.out⟩
set_option maxHeartbeats 2000000 in
set_option maxRecDepth 100000 in
theorem putInst2_any (x y : Nat) (w : World) (hx : x < 1152921504606846976) (hy : y < 1152921504606846976) :
    Calls Tryz.prog 30 #[.agg #[.int .i64 (x : Int), .int .i64 (y : Int)]] w fun r w' => Bts w (enc (8 * y + x)) r w' := by
  have BB : ∀ o, Hid (Below w.heap.size w (w.alloc o)) := fun o => (Below.refl _ w).alloc (Nat.le_refl _) _
  go_enter Tryz.func30, Tryz.ntmps30
  go_wp2_with fail
  refine (putPacked_any y x _ hy hx).mono ?_
  rintro e w1 ⟨u, rfl, ho, hb⟩
  have R := hide (bts_box (BB _).out ⟨u, rfl, ho, hb⟩)
  clear ho hb
  go_wp2
  go_ret
  exact R.out
set_option maxHeartbeats 2000000 in
set_option maxRecDepth 100000 in
theorem putBallot2_any (x y : Nat) (w : World) (hx : x < 1152921504606846976) (hy : y < 1152921504606846976) :
    Calls Tryz.prog 31 #[.agg #[.int .i64 (x : Int), .int .i64 (y : Int)]] w fun r w' => Bts w (enc (8 * x + y)) r w' := by
  have BB : ∀ o, Hid (Below w.heap.size w (w.alloc o)) := fun o => (Below.refl _ w).alloc (Nat.le_refl _) _
  go_enter Tryz.func31, Tryz.ntmps31
  go_wp2_with fail
  refine (putPacked_any x y _ hx hy).mono ?_
  rintro e w1 ⟨u, rfl, ho, hb⟩
  have R := hide (bts_box (BB _).out ⟨u, rfl, ho, hb⟩)
  clear ho hb
  go_wp2
  go_ret
  exact R.out
def votP1 (st : Nat) (sm : Bool) : List Int := if st = 0 then [0] else [(st : Int), if sm then 1 else 0]
def votP2 (st : Nat) (sm : Bool) : List Int := [if sm then (st : Int) + 4 else (st : Int)]
set_option maxHeartbeats 2000000 in
set_option maxRecDepth 100000 in
theorem start2_any (kd x y : Nat) (w : World) (hkd : kd < 128) (hx : x < 1152921504606846976) (hy : y < 1152921504606846976) :
    Calls Tryz.prog 135 #[.agg #[.int .i64 (kd : Int), .int .i64 (x : Int), .int .i64 (y : Int)], .agg #[.int .i64 2, .func (.func 30) #[] #[], .func (.func 31) #[] #[], .func (.func 32) #[] #[], .func (.func 33) #[] #[], .func (.func 34) #[] #[], .func (.func 35) #[] #[]]] w fun r w' => Bts w ((kd : Int) :: (enc (8 * y + x))) r w' := by
  obtain ⟨X, hX⟩ : ∃ X, X = (w.alloc (.cells #[.int .i64 (kd : Int), .int .i64 (x : Int), .int .i64 (y : Int)] 73)).alloc (.cells #[.int .i64 2, .func (.func 30) #[] #[], .func (.func 31) #[] #[], .func (.func 32) #[] #[], .func (.func 33) #[] #[], .func (.func 34) #[] #[], .func (.func 35) #[] #[]] 54) := ⟨_, rfl⟩
  have Q0 := blk_new w 73 [.int .i64 (kd : Int), .int .i64 (x : Int), .int .i64 (y : Int)]
  have QL0 := blk_new (w.alloc (.cells #[.int .i64 (kd : Int), .int .i64 (x : Int), .int .i64 (y : Int)] 73)) 54 [.int .i64 2, .func (.func 30) #[] #[], .func (.func 31) #[] #[], .func (.func 32) #[] #[], .func (.func 33) #[] #[], .func (.func 34) #[] #[], .func (.func 35) #[] #[]]
  have QH : Hid (Blk X w.heap.size [.int .i64 (kd : Int), .int .i64 (x : Int), .int .i64 (y : Int)]) := by rw [hX]; exact Q0.on ((Below.refl _ _).alloc (Nat.le_refl _) _)
  have QL : Hid (Blk X (w.heap.size + 1) [.int .i64 2, .func (.func 30) #[] #[], .func (.func 31) #[] #[], .func (.func 32) #[] #[], .func (.func 33) #[] #[], .func (.func 34) #[] #[], .func (.func 35) #[] #[]]) := by rw [hX]; rw [World.size_alloc] at QL0; exact QL0
  have BX : Hid (Below w.heap.size w X) := by rw [hX]; exact ((Below.refl _ w).alloc (Nat.le_refl _) _).alloc (by simp) _
  clear Q0 QL0
  have p1 := encF_pos (8 * y + x)
  have t1 := enc_ten (8 * y + x)
  have PI := fun W => putInst2_any x y W hx hy
  generalize enc (8 * y + x) = EI at *
  obtain ⟨EE, hEE⟩ : ∃ EE, Hid ([(kd : Int)] ++ EI = EE) := ⟨_, rfl⟩
  rw [show (kd : Int) :: EI = EE from hEE.out]
  have HPI := hide PI
  clear PI
  go_enter Tryz.func135, Tryz.ntmps135
  go_upto_region 1 with fail
  rw [← hX]
  clear hX
  have S0 := belX X
  refine wp_region_held_drew (S := (fun w' => Below X.heap.size X w')) (by kernel_rfl) S0 (fun hHeld => ?_)
  refine tk 0 ?_
  refine wpAnyH_take (i := 1) (v := ?_) rfl (by kernel_rfl) (by kernel_rfl) (by kernel_rfl) (fun _ _ _ h => h) (Or.inl ⟨by rfl, ?_⟩) (by assumption) ?_
  rotate_left
  · intro w hSw
    try dsimp only at hSw
    have c1 := QH.out.c1 hSw 0 _ rfl
    go_simp
    try with_reducible rfl
  try simp only [Act.put, List.getElem_toArray, List.getElem_cons_succ, List.getElem_cons_zero, List.setIfInBounds_toArray, List.set_cons_zero, List.set_cons_succ]
  refine tk 2 ?_
  refine tk 4 ?_
  refine wpAnyH_take (i := 5) (v := ?_) rfl (by kernel_rfl) (by kernel_rfl) (by kernel_rfl) (fun _ _ _ h => h) (Or.inl ⟨by rfl, ?_⟩) (by assumption) ?_
  rotate_left
  · intro w hSw
    try dsimp only at hSw
    have c5 := QL.out.c1 hSw 1 _ rfl
    go_simp
    try with_reducible rfl
  try simp only [Act.put, List.getElem_toArray, List.getElem_cons_succ, List.getElem_cons_zero, List.setIfInBounds_toArray, List.set_cons_zero, List.set_cons_succ]
  refine tk 6 ?_
  refine tq 7 rfl (yieldsIf_load_mid (by rfl) 25 _ rfl w.heap.size 1 rfl [.int .i64 (x : Int), .int .i64 (y : Int)] _ (fun _ h => QH.out.sub h 1 [.int .i64 (x : Int), .int .i64 (y : Int)] rfl) Tryz.underlying25 rfl (by kernel_rfl)) ?_
  refine wpAnyH_ready (rs := [3, 8]) (by kernel_rfl) (by simp) ?_
  refine AllReadyH.cons rfl (fun K hK => ?_) (AllReadyH.cons rfl (fun K hK => ?_) AllReadyH.nil)
  · rw [if_pos (by rfl)]
    go_wp2_with fail
    have S1 := S0.alloc S0.size (.cells #[.int .u8 (kd : Int)] 5)
    have OA := hide (own_one X.drew X.heap.size (Nat.le_refl _) (kd : Int))
    refine hK.out _ _ S1 (fun hHeld => ?_)
    clear hK K
    try simp only [Act.put, List.getElem_toArray, List.getElem_cons_succ, List.getElem_cons_zero, List.setIfInBounds_toArray, List.set_cons_zero, List.set_cons_succ]
    refine wpAnyH_ready (rs := [8]) (by kernel_rfl) (by simp) ?_
    refine AllReadyH.cons rfl (fun K hK => ?_) AllReadyH.nil
    rw [if_pos (by rfl)]
    go_wp2_with fail
    refine (HPI.out _).mono ?_
    rintro e W1 ⟨u1, rfl, o1, b1⟩
    have P1 := S1.trans (b1.mono S1.size)
    refine hK.out _ _ P1 (fun hHeld => ?_)
    clear hK K
    try simp only [Act.put, List.getElem_toArray, List.getElem_cons_succ, List.getElem_cons_zero, List.setIfInBounds_toArray, List.set_cons_zero, List.set_cons_succ]
    refine wpAnyH_ready (rs := [9]) (by kernel_rfl) (by simp) ?_
    refine AllReadyH.cons rfl (fun K hK => ?_) AllReadyH.nil
    rw [if_pos (by rfl)]
    have oA := own_below OA.out b1 (Nat.le_refl _)
    refine wp_join _ _ rfl X.heap.size (X.drew.alloc (.cells #[.int .u8 (kd : Int)] 5)).heap.size (.slice (some ⟨X.heap.size, 0, none⟩) 1 1) u1 [(kd : Int)] EI EE hEE rfl rfl oA o1 p1 (by simp; omega) P1.size ?_
    intro v' W9 ho hg
    have P9 : Below X.heap.size X W9 := P1.grown hg P1.size (fun j hj => by cases hj; exact Nat.le_refl _)
    have RR : Hid (W9.ownsRow w.heap.size 5 1 v' EE.length (EE.map (Value.int .u8)) ∧ Below w.heap.size w W9) := ⟨own_more ho BX.out.size, BX.out.trans (P9.mono BX.out.size)⟩
    refine hK.out _ _ P9 (fun hHeld => ?_)
    clear hK K
    try simp only [Act.put, List.getElem_toArray, List.getElem_cons_succ, List.getElem_cons_zero, List.setIfInBounds_toArray, List.set_cons_zero, List.set_cons_succ]
    refine tk 10 ?_
    refine wpAnyH_done (by kernel_rfl) ?_ _
    go_wp2
    go_ret
    exact ⟨v', rfl, RR.out⟩
  · rw [if_pos (by rfl)]
    go_wp2_with fail
    refine (HPI.out _).mono ?_
    rintro e W1 ⟨u1, rfl, o1, b1⟩
    have P1 := S0.trans (b1.mono S0.size)
    refine hK.out _ _ P1 (fun hHeld => ?_)
    clear hK K
    try simp only [Act.put, List.getElem_toArray, List.getElem_cons_succ, List.getElem_cons_zero, List.setIfInBounds_toArray, List.set_cons_zero, List.set_cons_succ]
    refine wpAnyH_ready (rs := [3]) (by kernel_rfl) (by simp) ?_
    refine AllReadyH.cons rfl (fun K hK => ?_) AllReadyH.nil
    rw [if_pos (by rfl)]
    go_wp2_with fail
    have S2 := P1.alloc P1.size (.cells #[.int .u8 (kd : Int)] 5)
    have oB := own_one W1 X.heap.size P1.size (kd : Int)
    have o1' := own_below o1 ((Below.refl _ W1).alloc (Nat.le_refl _) (.cells #[.int .u8 (kd : Int)] 5)) (Nat.le_refl _)
    refine hK.out _ _ S2 (fun hHeld => ?_)
    clear hK K
    try simp only [Act.put, List.getElem_toArray, List.getElem_cons_succ, List.getElem_cons_zero, List.setIfInBounds_toArray, List.set_cons_zero, List.set_cons_succ]
    refine wpAnyH_ready (rs := [9]) (by kernel_rfl) (by simp) ?_
    refine AllReadyH.cons rfl (fun K hK => ?_) AllReadyH.nil
    rw [if_pos (by rfl)]
    refine wp_join _ _ rfl X.heap.size X.heap.size (.slice (some ⟨W1.heap.size, 0, none⟩) 1 1) u1 [(kd : Int)] EI EE hEE rfl rfl oB o1' p1 (by simp; omega) S2.size ?_
    intro v' W9 ho hg
    have P9 : Below X.heap.size X W9 := S2.grown hg S2.size (fun j hj => by cases hj; exact P1.size)
    have RR : Hid (W9.ownsRow w.heap.size 5 1 v' EE.length (EE.map (Value.int .u8)) ∧ Below w.heap.size w W9) := ⟨own_more ho BX.out.size, BX.out.trans (P9.mono BX.out.size)⟩
    refine hK.out _ _ P9 (fun hHeld => ?_)
    clear hK K
    try simp only [Act.put, List.getElem_toArray, List.getElem_cons_succ, List.getElem_cons_zero, List.setIfInBounds_toArray, List.set_cons_zero, List.set_cons_succ]
    refine tk 10 ?_
    refine wpAnyH_done (by kernel_rfl) ?_ _
    go_wp2
    go_ret
    exact ⟨v', rfl, RR.out⟩
end Go.Proofs.YtbdkelffncmkhaaGreatDoor
/- The contracts of attrBytes and loadBytes. -/
namespace Go.Proofs.YtbdkelffncmkhaaGreatDoor
open Go.RowKit Go.Wire1

/-- An attribute's bytes, a load's. -/
def attP (v : Int) (sq : Nat) (dl : List Int) : List Int := enc sq ++ packR v dl
def lodP (v : Int) (c : Cm) (sq : Nat) (dl : List Int) : List Int := encC c ++ attP v sq dl
end Go.Proofs.YtbdkelffncmkhaaGreatDoor
/- The contracts of slices.Grow (from nothing) and of slices.Concat, on bytes. -/
namespace Go.Proofs.YtbdkelffncmkhaaGreatDoor
open Go.RowKit Go.Wire1

set_option maxHeartbeats 800000 in
set_option maxRecDepth 100000 in
theorem grow_room (base : Option Addr) (l c n : Nat) (w : World) (hlc : l ≤ c) (hc63 : c ≤ 9223372036854775807) (hn63 : n ≤ 9223372036854775807) (hroom : l + n ≤ c) :
    Calls Tryz.prog 139 #[.slice base l c, .int .i64 (n : Int)] w fun e w' => e = .returned (.slice base l c) ∧ w' = w := by
  have h1 : ¬ ((n : Int) < 0) := by omega
  have h2 : wrap64 ((c : Int) - (l : Int)) = (c : Int) - (l : Int) := by unfold wrap64; omega
  have h3 : wrap64 ((n : Int) - ((c : Int) - (l : Int))) = (n : Int) - ((c : Int) - (l : Int)) := by unfold wrap64; omega
  have h4 : ¬ ((n : Int) - ((c : Int) - (l : Int)) > 0) := by omega
  go_enter Tryz.func139, Tryz.ntmps139
  go_wp2
  go_ret
  exact ⟨rfl, rfl⟩

/-- What Grow leaves where there was no room. -/
def Grew (w : World) (l n c : Nat) (cs : List Value) (e : Ending) (w' : World) : Prop := ∃ (G : Nat) (zs : List Value), l + n ≤ G ∧ G ≤ maxLen ∧ zs.length = G - c ∧ e = .returned (.slice (some ⟨w.heap.size, 0, none⟩) l G) ∧ w' = w.drew.alloc (.cells (cs ++ zs).toArray 5)

set_option maxHeartbeats 800000 in
set_option maxRecDepth 100000 in
theorem grow_grow (base : Option Addr) (l c n : Nat) (cs : List Value) (w : World) (hlc : l ≤ c) (hroom : c < l + n) (hbig : l + n ≤ 140737488355328)
    (hcl : cs.length = c) (hnil : base = none → c = 0) (hcs : ∀ a, base = some a → ∀ j v, cs[j]? = some v → w.cell? (a.add j) = some v) :
    Calls Tryz.prog 139 #[.slice base l c, .int .i64 (n : Int)] w fun e w' => Grew w l n c cs e w' := by
  obtain ⟨i0, hi0, hz0, hz1, hz2⟩ := info_parts Tryz.info5
  have h1 : ¬ ((n : Int) < 0) := by omega
  have h2 : wrap64 ((c : Int) - (l : Int)) = (c : Int) - (l : Int) := by unfold wrap64; omega
  have h3 : wrap64 ((n : Int) - ((c : Int) - (l : Int))) = (n : Int) - ((c : Int) - (l : Int)) := by unfold wrap64; omega
  have h4 : (n : Int) - ((c : Int) - (l : Int)) > 0 := by omega
  have hck : c + (l + n - c) = l + n := by omega
  have hold : (Builtin.firstCells i0.size c (.slice base c c)).run Tryz.prog w.drew = .ok cs.toArray w.drew := by
    cases base with
    | none =>
      have h0 := hnil rfl
      subst h0
      have hc0 : cs = [] := List.length_eq_zero_iff.1 hcl
      rw [hc0]
      exact run_firstCells_none w.drew i0.size 0 0 0
    | some a => exact run_firstCells_some w.drew i0.size c a c c cs (by rw [hcl, hz1]; omega) (fun j v hj => hcs a rfl j v hj)
  obtain ⟨G, hG⟩ : ∃ G, G = grownCap w (l + n) c 5 := ⟨_, rfl⟩
  have hGn : l + n ≤ G := by rw [hG]; exact grownCap_ge w _ _ _
  have hGm : G ≤ maxLen := by rw [hG]; exact grownCap_le_maxLen w (l + n) c 5 (by unfold maxLen; omega)
  obtain ⟨zs, hzs⟩ : ∃ zs : List Value, zs = (Builtin.zeroCells (Value.cells (.int .u8 0)) (l + n - c)).toList ++ (Builtin.zeroCells (Value.cells (.int .u8 0)) (G - (l + n))).toList := ⟨_, rfl⟩
  have hzl : zs.length = G - c := by rw [hzs]; simp [Builtin.zeroCells, Value.cells]; omega
  have hrz : ∀ ty, (Builtin.append_ #[22, 3] ty #[.slice base c c, .int .i64 ((n : Int) - ((c : Int) - (l : Int)))]).run Tryz.prog w =
      .ok (.slice (some ⟨w.heap.size, 0, none⟩) (l + n) G) (w.drew.alloc (.cells (cs ++ zs).toArray 5)) := fun ty => by
    have h := Lib.run_append_grow_zeros w 22 3 ty 5 i0 (.int .u8 0) .i64 .i64 Tryz.underlying22 Tryz.underlying3 hi0 hz0 base c c cs hold (l + n - c) (by omega) (by omega) (by omega) (by omega)
      (by rw [hz2]; omega) (by rw [hck]; exact growslice_fits hroom (by rw [hz2]; omega))
    rw [hck, ← hG] at h
    rw [show (n : Int) - ((c : Int) - (l : Int)) = ((l + n - c : Nat) : Int) by omega, h, hzs]
    congr 3
    apply Array.ext'
    simp
  have hG63 : G ≤ 9223372036854775807 := by unfold maxLen at hGm; omega
  have HE : Hid (Grew w l n c cs (.returned (.slice (some ⟨w.heap.size, 0, none⟩) l G)) (w.drew.alloc (.cells (cs ++ zs).toArray 5))) := ⟨G, zs, hGn, hGm, hzl, rfl, rfl⟩
  clear hold hck hG hcs hcl hGm hzl hzs hi0 hz0 hz1 hz2
  go_enter Tryz.func139, Tryz.ntmps139
  cases base with
  | none =>
    have h0 := hnil rfl
    subst h0
    obtain rfl : l = 0 := by omega
    go_wp2_with (at_builtin; refine Lib.wpList_append_run _ rfl _ _ _ _ rfl _ _ rfl rfl _ _ (hrz _) ?_)
    all_goals go_ret
    all_goals exact HE.out
  | some a =>
    obtain ⟨ab, ao, asp⟩ := a
    go_wp2_with (at_builtin; refine Lib.wpList_append_run _ rfl _ _ _ _ rfl _ _ rfl rfl _ _ (hrz _) ?_)
    all_goals go_ret
    all_goals exact HE.out

theorem grow_nil (n : Nat) (w : World) (hn : n ≤ 1000000) :
    Calls Tryz.prog 139 #[.slice none 0 0, .int .i64 (n : Int)] w fun e w' => ∃ v, e = .returned v ∧ w'.ownsRow w.heap.size 5 1 v 0 [] ∧ Below w.heap.size w w' := by
  by_cases h0 : n = 0
  · subst h0
    refine (grow_room none 0 0 0 w (by decide) (by decide) (by decide) (by decide)).mono ?_
    rintro e w' ⟨rfl, rfl⟩
    exact ⟨_, rfl, World.ownsRow_nil _ _ _ _, Below.refl _ _⟩
  · refine (grow_grow none 0 0 n [] w (Nat.le_refl _) (by omega) (by omega) rfl (fun _ => rfl) (fun a e => by cases e)).mono ?_
    rintro e w' ⟨G, zs, h1, h2, h3, rfl, rfl⟩
    refine ⟨_, rfl, ⟨rfl, .inr ⟨w.heap.size, G, zs.toArray, rfl, Nat.le_refl _, heap_alloc_new w.drew _, Nat.zero_le _, h2, by simp; omega, rfl⟩⟩, (Below.refl _ _).drew.alloc (Nat.le_refl _) _⟩
/-- Lists of bytes of our own in a row. -/
def Srcs (w : World) (g : Nat) (us : List Value) (Ls : List (List Int)) : Prop := us.length = Ls.length ∧ ∀ i, i < Ls.length → w.cell? ⟨g, i, none⟩ = some (us.getD i undef) ∧ (∃ C, w.ownsRow C 5 1 (us.getD i undef) (Ls.getD i []).length ((Ls.getD i []).map (Value.int .u8))) ∧ 0 < (Ls.getD i []).length
theorem cat_snoc {Ls : List (List Int)} {i : Nat} (h : i < Ls.length) : (Ls.take (i + 1)).flatten = (Ls.take i).flatten ++ Ls.getD i [] := by
  rw [List.take_succ_eq_append_getElem h, List.flatten_append]
  simp [List.getD, List.getElem?_eq_getElem h]
theorem cat_le (Ls : List (List Int)) (i : Nat) : (Ls.take i).flatten.length ≤ Ls.flatten.length := by
  have : Ls.flatten = (Ls.take i).flatten ++ (Ls.drop i).flatten := by rw [← List.flatten_append, List.take_append_drop]
  rw [this, List.length_append]; omega
set_option maxHeartbeats 4000000 in
set_option maxRecDepth 100000 in
theorem concat_any (g : Nat) (us : List Value) (Ls : List (List Int)) (k : Nat) (hk : Ls.length = k) (hk9 : k ≤ 9) (w : World) (h : Srcs w g us Ls) (ht : Ls.flatten.length ≤ 1000000) :
    Calls Tryz.prog 134 #[.slice (some ⟨g, 0, none⟩) k k] w fun r w' => Bts w Ls.flatten r w' := by
  have HH := hide h
  have HK := hide hk
  have HT := hide ht
  clear h hk ht
  unfold Bts
  go_enter Tryz.func134, Tryz.ntmps134
  go_wp2
  go_loopw [3, 11] (fun sv iv wr => ∃ (i T : Nat), sv = .int .i64 (T : Int) ∧ iv = .int .i64 (i : Int) ∧ i ≤ k ∧ Hid (T = (Ls.take i).flatten.length) ∧ T ≤ 1000000 ∧ w = wr) (fun _ iv _ => k - (intOf iv).toNat)
  case atStart => exact ⟨0, 0, rfl, rfl, Nat.zero_le _, rfl, Nat.zero_le _, rfl⟩
  case round =>
    obtain ⟨i, T, rfl, rfl, hi, hT, hTm, rfl⟩ := hrel
    by_cases hlt : i < k
    · have hil : i < Ls.length := by rw [HK.out]; exact hlt
      obtain ⟨hc, ⟨C, ho⟩, hp⟩ := HH.out.2 i hil
      obtain ⟨ua, ucap, hu⟩ := own_shape ho
      rw [hu] at hc
      have hsn := congrArg List.length (cat_snoc hil)
      have hle := cat_le Ls (i + 1)
      rw [List.length_append] at hsn
      generalize (Ls.getD i []).length = m at *
      have HT2 : Hid (T + m = (Ls.take (i + 1)).flatten.length) := by show _ = _; rw [hsn, ← hT.out]
      have hTm2 : T + m ≤ 1000000 := by have := HT.out; have := HT2.out; omega
      clear hsn hle ho hp hu hil hT
      go_wp2
      go_roundw
      case rel => exact ⟨i + 1, T + m, by go_num, by go_num, by omega, HT2, hTm2, by first | rfl | trivial⟩
      case measure => simp [intOf]; omega
    · obtain rfl : i = k := by omega
      clear hT hlt hi
      go_wp2_with fail
      refine (grow_nil T w hTm).mono ?_
      rintro e w1 ⟨v1, rfl, o1, b1⟩
      have O1 := hide o1
      have B1 := hide b1
      clear o1 b1
      go_wp2
      go_loopw [6, 27] (fun av iv wr => ∃ (j : Nat), iv = .int .i64 (j : Int) ∧ j ≤ i ∧ Hid (wr.ownsRow w.heap.size 5 1 av (Ls.take j).flatten.length ((Ls.take j).flatten.map (Value.int .u8))) ∧ Hid (Below w.heap.size w wr)) (fun _ iv _ => i - (intOf iv).toNat)
      case atStart => exact ⟨0, rfl, Nat.zero_le _, O1, B1⟩
      case round =>
        clear O1 B1
        obtain ⟨j, rfl, hj, OJ, BJ⟩ := hrel
        by_cases hlt : j < i
        · have hil : j < Ls.length := by rw [HK.out]; exact hlt
          obtain ⟨hc, ⟨C, ho⟩, hp⟩ := HH.out.2 j hil
          have hcell : wr.cell? ⟨g, j, none⟩ = some (us.getD j undef) := by rw [BJ.out.cell (p := ⟨g, j, none⟩) (cell_lt hc)]; exact hc
          have OS := hide (own_below ho BJ.out (Nat.le_refl _))
          have hsn := cat_snoc hil
          have hle := cat_le Ls (j + 1)
          obtain ⟨EE, hEE⟩ : ∃ EE, Hid ((Ls.take j).flatten ++ Ls.getD j [] = EE) := ⟨_, rfl⟩
          have HEJ : Hid ((Ls.take (j + 1)).flatten = EE) := by rw [← hEE.out]; exact hsn
          rw [hsn, List.length_append] at hle
          have hlen : (Ls.take j).flatten.length + (Ls.getD j []).length ≤ 1000000 := by have := HT.out; omega
          obtain ⟨ua, ucap, hu⟩ := own_shape ho
          rw [hu] at hcell OS
          have hsz : w.heap.size ≤ wr.heap.size := BJ.out.size
          clear hsn hle ho hc hu hil
          generalize (Ls.take j).flatten = LJ at *
          generalize Ls.getD j [] = LX at *
          obtain ⟨av, hav⟩ : ∃ av, Hid (u6 = av) := ⟨_, rfl⟩
          go_wp2_with (first | (at_builtin; refine wpList_join rfl _ _ rfl w.heap.size C u6 (.slice ua LX.length ucap) LJ LX EE hEE rfl rfl OJ.out OS.out hp hlen hsz ?_))
          intro v' w3 ho hg
          have RR : Hid (w3.ownsRow w.heap.size 5 1 v' (Ls.take (j + 1)).flatten.length ((Ls.take (j + 1)).flatten.map (Value.int .u8)) ∧ Below w.heap.size w w3) := by
            rw [HEJ.out]
            exact ⟨ho, BJ.out.grown hg hsz (fun j hj => (OJ.out.lt j hj).1)⟩
          clear ho hg
          go_wp2
          go_roundw
          case rel => exact ⟨j + 1, by go_num, by omega, RR.out.1, RR.out.2⟩
          case measure => simp [intOf]; omega
        · obtain rfl : j = i := by omega
          have htk : Ls.take j = Ls := List.take_of_length_le (Nat.le_of_eq HK.out)
          rw [htk] at OJ
          go_wp2
          go_ret
          exact ⟨_, rfl, OJ.out, BJ.out⟩
end Go.Proofs.YtbdkelffncmkhaaGreatDoor
