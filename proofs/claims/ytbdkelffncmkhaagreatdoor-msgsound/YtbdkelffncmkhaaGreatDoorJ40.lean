/- Texts of the proof, joined. -/
import Derived.Test.YtbdkelffncmkhaaGreatDoorJ39
import Derived.Test.YtbdkelffncmkhaaGreatDoorJ01
import Derived.Test.YtbdkelffncmkhaaGreatDoorJ38
import Derived.Test.YtbdkelffncmkhaaGreatDoorJ04
/- The contracts of the bytes methods of the shapes. -/
namespace Go.Proofs.YtbdkelffncmkhaaGreatDoor
open Go.RowKit Go.Wire1

def insP (v : Int) (x y : Nat) : List Int := if v = 1 then enc x ++ enc y else enc (8 * y + x)
def balP (v : Int) (x y : Nat) : List Int := if v = 1 then enc x ++ enc y else enc (8 * x + y)
def votP (v : Int) (st : Nat) (sm : Bool) : List Int := if v = 1 then votP1 st sm else votP2 st sm
def staP (v : Int) (kd row num : Nat) : List Int := (kd : Int) :: insP v row num
theorem insP_len (v : Int) (x y : Nat) : 0 < (insP v x y).length ∧ (insP v x y).length ≤ 20 := by
  unfold insP
  have := encF_pos x; have := enc_ten x; have := enc_ten y; have := encF_pos (8 * y + x); have := enc_ten (8 * y + x)
  split
  · rw [List.length_append]; omega
  · omega
theorem balP_len (v : Int) (x y : Nat) : 0 < (balP v x y).length ∧ (balP v x y).length ≤ 20 := by
  unfold balP
  have := encF_pos x; have := enc_ten x; have := enc_ten y; have := encF_pos (8 * x + y); have := enc_ten (8 * x + y)
  split
  · rw [List.length_append]; omega
  · omega
theorem staP_len (v : Int) (kd x y : Nat) : 0 < (staP v kd x y).length ∧ (staP v kd x y).length ≤ 21 := by
  unfold staP
  have := insP_len v x y
  rw [List.length_cons]; omega
def All2 (W : World) : List Value → List (List Int) → Prop
  | [], [] => True
  | u :: us, L :: Ls => (∃ C, W.ownsRow C 5 1 u L.length (L.map (Value.int .u8))) ∧ 0 < L.length ∧ All2 W us Ls
  | _, _ => False
theorem All2.at {W : World} : ∀ {us : List Value} {Ls : List (List Int)}, All2 W us Ls → us.length = Ls.length ∧ ∀ i, i < Ls.length → (∃ C, W.ownsRow C 5 1 (us.getD i undef) (Ls.getD i []).length ((Ls.getD i []).map (Value.int .u8))) ∧ 0 < (Ls.getD i []).length
  | [], [], _ => ⟨rfl, fun i hi => by simp at hi⟩
  | u :: us, L :: Ls, h => by
    obtain ⟨h1, h2, h3⟩ := h
    obtain ⟨e, r⟩ := All2.at h3
    refine ⟨by simp [e], fun i hi => ?_⟩
    cases i with
    | zero => exact ⟨h1, h2⟩
    | succ i => exact r i (by simpa using hi)
  | [], _ :: _, h => h.elim
  | _ :: _, [], h => h.elim
theorem srcs_new {W : World} {us : List Value} {Ls : List (List Int)} (T : TypeId) (h : All2 W us Ls) : Srcs (W.alloc (.cells us.toArray T)) W.heap.size us Ls := by
  obtain ⟨e, r⟩ := h.at
  refine ⟨e, fun i hi => ?_⟩
  obtain ⟨⟨C, ho⟩, hp⟩ := r i hi
  refine ⟨?_, ⟨C, own_below ho ((Below.refl _ _).alloc (Nat.le_refl _) _) (Nat.le_refl _)⟩, hp⟩
  rw [World.cell?_alloc_at _ _ _ _ rfl]
  simp [List.getD, List.getElem?_eq_getElem (show i < us.length by omega)]
end Go.Proofs.YtbdkelffncmkhaaGreatDoor
/- The contracts of the bytes methods of the shapes, version 1. -/
namespace Go.Proofs.YtbdkelffncmkhaaGreatDoor
open Go.RowKit Go.Wire1

end Go.Proofs.YtbdkelffncmkhaaGreatDoor
/- The contracts of the bytes methods of the shapes, version 2. -/
namespace Go.Proofs.YtbdkelffncmkhaaGreatDoor
open Go.RowKit Go.Wire1

set_option maxHeartbeats 4000000 in
set_option maxRecDepth 100000 in
theorem bytes_balloted2 (kd row num x y : Nat) (w : World) (hkd : kd < 128) (hrow : row < 1152921504606846976) (hnum : num < 1152921504606846976) (hx : x < 1152921504606846976) (hy : y < 1152921504606846976) :
    Calls Tryz.prog 157 #[.agg #[.int .i64 (kd : Int), .int .i64 (row : Int), .int .i64 (num : Int), .int .i64 (x : Int), .int .i64 (y : Int)], .agg #[.int .i64 2, .func (.func 30) #[] #[], .func (.func 31) #[] #[], .func (.func 32) #[] #[], .func (.func 33) #[] #[], .func (.func 34) #[] #[], .func (.func 35) #[] #[]]] w fun r w' => Bts w ([staP 2 kd row num, balP 2 x y] : List (List Int)).flatten r w' := by
  obtain ⟨X, hX⟩ : ∃ X, X = (w.alloc (.cells #[.int .i64 (kd : Int), .int .i64 (row : Int), .int .i64 (num : Int), .int .i64 (x : Int), .int .i64 (y : Int)] 87)).alloc (.cells #[.int .i64 2, .func (.func 30) #[] #[], .func (.func 31) #[] #[], .func (.func 32) #[] #[], .func (.func 33) #[] #[], .func (.func 34) #[] #[], .func (.func 35) #[] #[]] 54) := ⟨_, rfl⟩
  have Q0 := blk_new w 87 [.int .i64 (kd : Int), .int .i64 (row : Int), .int .i64 (num : Int), .int .i64 (x : Int), .int .i64 (y : Int)]
  have QL0 := blk_new (w.alloc (.cells #[.int .i64 (kd : Int), .int .i64 (row : Int), .int .i64 (num : Int), .int .i64 (x : Int), .int .i64 (y : Int)] 87)) 54 [.int .i64 2, .func (.func 30) #[] #[], .func (.func 31) #[] #[], .func (.func 32) #[] #[], .func (.func 33) #[] #[], .func (.func 34) #[] #[], .func (.func 35) #[] #[]]
  have QS : Hid (Blk X w.heap.size [.int .i64 (kd : Int), .int .i64 (row : Int), .int .i64 (num : Int), .int .i64 (x : Int), .int .i64 (y : Int)]) := by rw [hX]; exact Q0.on ((Below.refl _ _).alloc (Nat.le_refl _) _)
  have QL : Hid (Blk X (w.heap.size + 1) [.int .i64 2, .func (.func 30) #[] #[], .func (.func 31) #[] #[], .func (.func 32) #[] #[], .func (.func 33) #[] #[], .func (.func 34) #[] #[], .func (.func 35) #[] #[]]) := by rw [hX]; rw [World.size_alloc] at QL0; exact QL0
  have BX : Hid (Below w.heap.size w X) := by rw [hX]; exact ((Below.refl _ w).alloc (Nat.le_refl _) _).alloc (by simp) _
  clear Q0 QL0
  have C0 : Hid (∀ W, Below X.heap.size X W → Calls Tryz.prog 135 #[.agg #[.int .i64 (kd : Int), .int .i64 (row : Int), .int .i64 (num : Int)], .agg #[.int .i64 2, .func (.func 30) #[] #[], .func (.func 31) #[] #[], .func (.func 32) #[] #[], .func (.func 33) #[] #[], .func (.func 34) #[] #[], .func (.func 35) #[] #[]]] W fun r w' => Bts W (staP 2 kd row num) r w') := fun W hW => start2_any kd row num W hkd hrow hnum
  have q0 := staP_len 2 kd row num
  have C1 : Hid (∀ W, Below X.heap.size X W → Calls Tryz.prog 31 #[.agg #[.int .i64 (x : Int), .int .i64 (y : Int)]] W fun r w' => Bts W (balP 2 x y) r w') := fun W hW => putBallot2_any x y W hx hy
  have q1 := balP_len 2 x y
  generalize staP 2 kd row num = SL at *
  generalize balP 2 x y = BL at *
  have hTot : ([SL, BL] : List (List Int)).flatten.length ≤ 1000000 := by simp; omega
  obtain ⟨TL, hTL⟩ : ∃ TL, Hid (([SL, BL] : List (List Int)).flatten = TL) := ⟨_, rfl⟩
  rw [hTL.out]
  go_enter Tryz.func157, Tryz.ntmps157
  go_upto_region 1 with fail
  rw [← hX]
  clear hX
  have S0 := belX X
  refine wp_region_held_drew (S := (fun w' => Below X.heap.size X w')) (by kernel_rfl) S0 (fun hHeld => ?_)
  refine tk 0 ?_
  refine tq 1 rfl (yieldsIf_load_mid (by rfl) 73 _ rfl w.heap.size 0 rfl [.int .i64 (kd : Int), .int .i64 (row : Int), .int .i64 (num : Int)] _ (fun _ h => QS.out.sub h 0 [.int .i64 (kd : Int), .int .i64 (row : Int), .int .i64 (num : Int)] rfl) Tryz.underlying73 rfl (by kernel_rfl)) ?_
  refine tq 2 rfl (yieldsIf_load_mid (by rfl) 54 _ rfl (w.heap.size + 1) 0 rfl [.int .i64 2, .func (.func 30) #[] #[], .func (.func 31) #[] #[], .func (.func 32) #[] #[], .func (.func 33) #[] #[], .func (.func 34) #[] #[], .func (.func 35) #[] #[]] _ (fun _ h => QL.out.sub h 0 [.int .i64 2, .func (.func 30) #[] #[], .func (.func 31) #[] #[], .func (.func 32) #[] #[], .func (.func 33) #[] #[], .func (.func 34) #[] #[], .func (.func 35) #[] #[]] rfl) Tryz.underlying54 rfl (by kernel_rfl)) ?_
  refine tk 4 ?_
  refine wpAnyH_take (i := 5) (v := ?_) rfl (by kernel_rfl) (by kernel_rfl) (by kernel_rfl) (fun _ _ _ h => h) (Or.inl ⟨by rfl, ?_⟩) (by assumption) ?_
  rotate_left
  · intro w hSw
    try dsimp only at hSw
    have c5 := QL.out.c1 hSw 2 _ rfl
    go_simp
    try with_reducible rfl
  try simp only [Act.put, List.getElem_toArray, List.getElem_cons_succ, List.getElem_cons_zero, List.setIfInBounds_toArray, List.set_cons_zero, List.set_cons_succ]
  refine tk 6 ?_
  refine tq 7 rfl (yieldsIf_load_mid (by rfl) 27 _ rfl w.heap.size 3 rfl [.int .i64 (x : Int), .int .i64 (y : Int)] _ (fun _ h => QS.out.sub h 3 [.int .i64 (x : Int), .int .i64 (y : Int)] rfl) Tryz.underlying27 rfl (by kernel_rfl)) ?_
  refine wpAnyH_ready (rs := [3]) (by kernel_rfl) (by simp) ?_
  refine AllReadyH.cons rfl (fun K hK => ?_) AllReadyH.nil
  rw [if_pos (by rfl)]
  go_wp2_with fail
  refine (C0.out _ S0).mono ?_
  rintro e W0 ⟨u0, rfl, o0, b0⟩
  have P0 := S0.trans (b0.mono S0.size)
  clear b0
  obtain ⟨va0, vc0, rfl⟩ := own_shape o0
  refine hK.out _ _ P0 (fun hHeld => ?_)
  clear hK K
  try simp only [Act.put, List.getElem_toArray, List.getElem_cons_succ, List.getElem_cons_zero, List.setIfInBounds_toArray, List.set_cons_zero, List.set_cons_succ]
  refine wpAnyH_ready (rs := [8]) (by kernel_rfl) (by simp) ?_
  refine AllReadyH.cons rfl (fun K hK => ?_) AllReadyH.nil
  rw [if_pos (by rfl)]
  go_wp2_with fail
  refine (C1.out _ P0).mono ?_
  rintro e W1 ⟨u1, rfl, o1, b1⟩
  have P1 := P0.trans (b1.mono P0.size)
  have o0 := own_below o0 b1 (Nat.le_refl _)
  clear b1
  obtain ⟨va1, vc1, rfl⟩ := own_shape o1
  refine hK.out _ _ P1 (fun hHeld => ?_)
  clear hK K
  try simp only [Act.put, List.getElem_toArray, List.getElem_cons_succ, List.getElem_cons_zero, List.setIfInBounds_toArray, List.set_cons_zero, List.set_cons_succ]
  refine wpAnyH_ready (rs := [9]) (by kernel_rfl) (by simp) ?_
  refine AllReadyH.cons rfl (fun K hK => ?_) AllReadyH.nil
  rw [if_pos (by rfl)]
  go_wp2_with fail
  have PA := P1.alloc P1.size (.cells #[.slice va0 SL.length vc0, .slice va1 BL.length vc1] 22)
  refine hK.out _ _ PA (fun hHeld => ?_)
  clear hK K
  try simp only [Act.put, List.getElem_toArray, List.getElem_cons_succ, List.getElem_cons_zero, List.setIfInBounds_toArray, List.set_cons_zero, List.set_cons_succ]
  refine wpAnyH_ready (rs := [10]) (by kernel_rfl) (by simp) ?_
  refine AllReadyH.cons rfl (fun K hK => ?_) AllReadyH.nil
  rw [if_pos (by rfl)]
  go_wp2_with fail
  refine (concat_any _ [.slice va0 SL.length vc0, .slice va1 BL.length vc1] [SL, BL] 2 rfl (by decide) _ (srcs_new _ ⟨⟨_, o0⟩, q0.1, ⟨_, o1⟩, q1.1, trivial⟩) hTot).mono ?_
  rintro e W9 ⟨u9, rfl, o9, b9⟩
  have P9 := PA.trans (b9.mono PA.size)
  have RR : Hid (Bts w TL (.returned u9) W9) := by
    rw [← hTL.out]
    exact bts_box (BX.out.trans (PA.mono BX.out.size)) ⟨u9, rfl, o9, b9⟩
  refine hK.out _ _ P9 (fun hHeld => ?_)
  clear hK K
  try simp only [Act.put, List.getElem_toArray, List.getElem_cons_succ, List.getElem_cons_zero, List.setIfInBounds_toArray, List.set_cons_zero, List.set_cons_succ]
  refine tk 11 ?_
  refine wpAnyH_done (by kernel_rfl) ?_ _
  go_wp2
  go_ret
  exact RR.out
end Go.Proofs.YtbdkelffncmkhaaGreatDoor
/- The contract of Encode. -/
namespace Go.Proofs.YtbdkelffncmkhaaGreatDoor
open Go.RowKit Go.Wire1

set_option maxHeartbeats 2000000 in
set_option maxRecDepth 100000 in
theorem menc_balloted (v n : Int) (k row num x y p q st : Int) (sm : Bool) (c : Cm) (sq : Int) (ua : Option Addr) (uk uc : Nat) (w : World) (Z LY : Value) (L : List Int) (hC : Hid (∀ W, Below w.heap.size w W → Calls Tryz.prog 10 #[.int .i64 v, .int .i64 n, .agg #[.int .i64 k, .int .i64 row, .int .i64 num, .int .i64 x, .int .i64 y, .int .i64 p, .int .i64 q, .int .i64 st, .bool sm, .int .i64 c.kind, .int .i64 c.client, .int .i64 c.req, .string c.key, .string c.key2, .string c.val, .string c.old, .int .i64 c.n, .int .i64 sq, .slice ua uk uc]] W fun r w' => r = .returned (.int .i64 0) ∧ Below W.heap.size W w'))
    (hS : Hid (∀ W, Calls Tryz.prog 17 #[.agg #[.int .i64 k, .int .i64 row, .int .i64 num, .int .i64 x, .int .i64 y, .int .i64 p, .int .i64 q, .int .i64 st, .bool sm, .int .i64 c.kind, .int .i64 c.client, .int .i64 c.req, .string c.key, .string c.key2, .string c.val, .string c.old, .int .i64 c.n, .int .i64 sq, .slice ua uk uc]] W fun r w' => r = .returned (.iface 87 Z) ∧ Below W.heap.size W w')) (hL : Hid (∀ W, Calls Tryz.prog 13 #[.int .i64 v] W fun r w' => r = .returned LY ∧ Below W.heap.size W w'))
    (hB : Hid (∀ W, Below w.heap.size w W → Calls Tryz.prog 157 #[Z, LY] W fun r w' => Bts W L r w')) :
    Calls Tryz.prog 7 #[.int .i64 v, .int .i64 n, .agg #[.int .i64 k, .int .i64 row, .int .i64 num, .int .i64 x, .int .i64 y, .int .i64 p, .int .i64 q, .int .i64 st, .bool sm, .int .i64 c.kind, .int .i64 c.client, .int .i64 c.req, .string c.key, .string c.key2, .string c.val, .string c.old, .int .i64 c.n, .int .i64 sq, .slice ua uk uc]] w fun r w' => ∃ u, r = .returned (.tuple #[u, .int .i64 0]) ∧ w'.ownsRow w.heap.size 5 1 u L.length (L.map (Value.int .u8)) ∧ Below w.heap.size w w' := by
  obtain ⟨X, hX⟩ : ∃ X, X = w.alloc (.cells #[.int .i64 k, .int .i64 row, .int .i64 num, .int .i64 x, .int .i64 y, .int .i64 p, .int .i64 q, .int .i64 st, .bool sm, .int .i64 c.kind, .int .i64 c.client, .int .i64 c.req, .string c.key, .string c.key2, .string c.val, .string c.old, .int .i64 c.n, .int .i64 sq, .slice ua uk uc] 32) := ⟨_, rfl⟩
  have QX : Hid (Blk X w.heap.size [.int .i64 k, .int .i64 row, .int .i64 num, .int .i64 x, .int .i64 y, .int .i64 p, .int .i64 q, .int .i64 st, .bool sm, .int .i64 c.kind, .int .i64 c.client, .int .i64 c.req, .string c.key, .string c.key2, .string c.val, .string c.old, .int .i64 c.n, .int .i64 sq, .slice ua uk uc]) := by rw [hX]; exact blk_new w 32 [.int .i64 k, .int .i64 row, .int .i64 num, .int .i64 x, .int .i64 y, .int .i64 p, .int .i64 q, .int .i64 st, .bool sm, .int .i64 c.kind, .int .i64 c.client, .int .i64 c.req, .string c.key, .string c.key2, .string c.val, .string c.old, .int .i64 c.n, .int .i64 sq, .slice ua uk uc]
  have BX : Hid (Below w.heap.size w X) := by rw [hX]; exact (Below.refl _ w).alloc (Nat.le_refl _) _
  have hm : ∀ w, (Go.method 345 87 Z "moot/msg.bytes").run Tryz.prog w = .ok (157, Z) w := fun _ => by kernel_rfl
  have hna : ∀ w, (Go.nilAhead 345 87 Z "moot/msg.bytes").run Tryz.prog w = .ok (some false) w := fun _ => by kernel_rfl
  go_enter Tryz.func7, Tryz.ntmps7
  go_upto_region 1 with fail
  rw [← hX]
  clear hX
  go_wp2_with (first | (refine wpList_load_mid rfl 32 _ rfl w.heap.size 0 rfl [.int .i64 k, .int .i64 row, .int .i64 num, .int .i64 x, .int .i64 y, .int .i64 p, .int .i64 q, .int .i64 st, .bool sm, .int .i64 c.kind, .int .i64 c.client, .int .i64 c.req, .string c.key, .string c.key2, .string c.val, .string c.old, .int .i64 c.n, .int .i64 sq, .slice ua uk uc] _ (QX.out.range) Tryz.underlying32 rfl (by kernel_rfl) ?_))
  refine (hC.out X BX.out).mono ?_
  rintro r X1 ⟨rfl, b1⟩
  have Q1 := hide (QX.out.on b1)
  have B1 : Hid (Below w.heap.size w X1) := BX.out.trans (b1.mono BX.out.size)
  clear b1 QX BX
  go_upto_region 4 with fail
  have S0 := belX X1
  refine wp_region_noPanic ?_
  refine wp_region_held_drew (S := (fun w' => Below X1.heap.size X1 w')) (by kernel_rfl) S0 (fun hHeld => ?_)
  refine tq 0 rfl (yieldsIf_load_mid (by rfl) 32 _ rfl w.heap.size 0 rfl [.int .i64 k, .int .i64 row, .int .i64 num, .int .i64 x, .int .i64 y, .int .i64 p, .int .i64 q, .int .i64 st, .bool sm, .int .i64 c.kind, .int .i64 c.client, .int .i64 c.req, .string c.key, .string c.key2, .string c.val, .string c.old, .int .i64 c.n, .int .i64 sq, .slice ua uk uc] _ (fun _ h => Q1.out.sub h 0 [.int .i64 k, .int .i64 row, .int .i64 num, .int .i64 x, .int .i64 y, .int .i64 p, .int .i64 q, .int .i64 st, .bool sm, .int .i64 c.kind, .int .i64 c.client, .int .i64 c.req, .string c.key, .string c.key2, .string c.val, .string c.old, .int .i64 c.n, .int .i64 sq, .slice ua uk uc] rfl) Tryz.underlying32 rfl (by kernel_rfl)) ?_
  refine tk 2 ?_
  refine wpAnyH_ready (rs := [1]) (by kernel_rfl) (by simp) ?_
  refine AllReadyH.cons rfl (fun K hK => ?_) AllReadyH.nil
  rw [if_pos (by rfl)]
  go_wp2_with fail
  refine (hS.out _).mono ?_
  rintro e W1 ⟨rfl, b2⟩
  have P1 := S0.trans (b2.mono S0.size)
  clear b2
  refine hK.out _ _ P1 (fun hHeld => ?_)
  clear hK K
  try simp only [Act.put, List.getElem_toArray, List.getElem_cons_succ, List.getElem_cons_zero, List.setIfInBounds_toArray, List.set_cons_zero, List.set_cons_succ]
  refine tk 4 ?_
  refine tk 5 ?_
  refine tk 6 ?_
  refine wpAnyH_ready (rs := [3]) (by kernel_rfl) (by simp) ?_
  refine AllReadyH.cons rfl (fun K hK => ?_) AllReadyH.nil
  rw [if_pos (by rfl)]
  go_wp2_with fail
  refine (hL.out _).mono ?_
  rintro e W2 ⟨rfl, b3⟩
  have P2 := P1.trans (b3.mono P1.size)
  clear b3
  refine hK.out _ _ P2 (fun hHeld => ?_)
  clear hK K
  try simp only [Act.put, List.getElem_toArray, List.getElem_cons_succ, List.getElem_cons_zero, List.setIfInBounds_toArray, List.set_cons_zero, List.set_cons_succ]
  refine wpAnyH_ready (rs := [7]) (by kernel_rfl) (by simp) ?_
  refine AllReadyH.cons rfl (fun K hK => ?_) AllReadyH.nil
  rw [if_pos (by rfl)]
  go_wp2_with fail
  refine (hB.out W2 (B1.out.trans (P2.mono B1.out.size))).mono ?_
  rintro e W3 ⟨u, rfl, o3, b3⟩
  have P3 := P2.trans (b3.mono P2.size)
  have RR := hide (bts_box (B1.out.trans (P2.mono B1.out.size)) ⟨u, rfl, o3, b3⟩)
  refine hK.out _ _ P3 (fun hHeld => ?_)
  clear hK K
  try simp only [Act.put, List.getElem_toArray, List.getElem_cons_succ, List.getElem_cons_zero, List.setIfInBounds_toArray, List.set_cons_zero, List.set_cons_succ]
  refine tk 8 ?_
  refine tk 9 ?_
  refine wpAnyH_done (by kernel_rfl) ?_ _
  refine NoPanic.normal ?_
  go_wp2
  go_ret2
  obtain ⟨u', e', r1, r2⟩ := RR.out
  cases e'
  exact ⟨_, rfl, r1, r2⟩
end Go.Proofs.YtbdkelffncmkhaaGreatDoor
/- The plain mathematics: what is packed is read back; every beginning ends too early; what is read has one form. -/
namespace Go.Wire1
open Go.RowKit

theorem take_snocI {l : List Int} {k : Nat} (h : k < l.length) : l.take (k + 1) = l.take k ++ [l.getD k 0] := take_next h
theorem last_take {l : List Int} {k : Nat} (h : k ≤ l.length) : last0 (l.take k) = prev l k := by
  cases k with
  | zero => rfl
  | succ k => rw [take_snocI (by omega), last_snoc, prev_succ]

theorem vec_parts {l : List Int} (h : isVec l = true) : okL l = true ∧ 1 ≤ l.length ∧ l.length ≤ 7 := by
  unfold isVec at h
  simp only [Bool.and_eq_true] at h
  have := of_decide_eq_true h.1
  exact ⟨h.2, this.1, this.2⟩
theorem packE_vec {v : Int} {l : List Int} (hv : v = 1 ∨ v = 2) (h : isVec l = true) : packE v l = 0 := by
  have hp := vec_parts h
  unfold packE fault
  rw [if_pos hv, show okW l.length = true from decide_eq_true ⟨hp.2.1, hp.2.2⟩, hp.1]; rfl
theorem packR_vec {v : Int} {l : List Int} (hv : v = 1 ∨ v = 2) (h : isVec l = true) : packR v l = packL v l := by
  unfold packR; rw [if_pos (packE_vec hv h)]
theorem packR_pos {v : Int} {l : List Int} (hv : v = 1 ∨ v = 2) (h : isVec l = true) : 1 ≤ (packR v l).length ∧ (packR v l).length ≤ 100 := by
  have hp := vec_parts h
  rw [packR_vec hv h]
  unfold packL
  rcases hv with rfl | rfl
  · rw [if_pos rfl]
    have := plainK_len hp.1 l.length
    omega
  · rw [if_neg (by decide), tight_len h]
    have := diffK_le hp.1 l.length
    omega

theorem plainK_pre (xs ys : List Int) : ∀ {k : Nat}, k ≤ xs.length → plainK (xs ++ ys) k = plainK xs k
  | 0, _ => rfl
  | k + 1, h => by
    simp only [plainK]
    rw [plainK_pre xs ys (by omega), List.getD, List.getElem?_append_left (by omega)]; rfl
theorem getD_pre (xs ys : List Int) {k : Nat} (h : k < xs.length) : (xs ++ ys).getD k 0 = xs.getD k 0 := by rw [List.getD, List.getElem?_append_left h]; rfl
theorem prev_pre (xs ys : List Int) {k : Nat} (h : k ≤ xs.length) : prev (xs ++ ys) k = prev xs k := by
  cases k with
  | zero => rfl
  | succ k => rw [prev_succ, prev_succ, getD_pre _ _ (by omega)]
theorem both_pre (xs ys : List Int) : ∀ {k : Nat}, k ≤ xs.length → maskK (xs ++ ys) k = maskK xs k ∧ diffK (xs ++ ys) k = diffK xs k
  | 0, _ => ⟨rfl, rfl⟩
  | k + 1, h => by
    have ih := both_pre xs ys (k := k) (by omega)
    simp only [maskK, diffK]
    rw [ih.1, ih.2, getD_pre _ _ (by omega), prev_pre _ _ (by omega)]
    exact ⟨rfl, rfl⟩
theorem getD_end (xs : List Int) (y : Int) : (xs ++ [y]).getD xs.length 0 = y := by simp
theorem prev_end (xs : List Int) (y : Int) : prev (xs ++ [y]) xs.length = last0 xs := by
  rw [prev_pre _ _ (Nat.le_refl _), ← last_take (Nat.le_refl _), List.take_length]
theorem take_add (b : List Int) (p m : Nat) : b.take (p + m) = b.take p ++ (b.drop p).take m := by rw [List.take_add]

theorem rd1_form {b : List Int} (hy : Byt b) : ∀ {k p : Nat} {xs : List Int}, rd1 b k = .ok (xs, p) → plainK xs k = b.take p
  | 0, p, xs, h => by simp only [rd1, Except.ok.injEq, Prod.mk.injEq] at h; obtain ⟨rfl, rfl⟩ := h; rfl
  | k + 1, p, xs, h => by
    cases hr : rd1 b k with
    | error e => simp only [rd1, hr] at h; cases h
    | ok q =>
      obtain ⟨ys, p'⟩ := q
      have ih := rd1_form hy hr
      have hl := rd1_len hy hr
      cases hd : dec (b.drop p') with
      | error i => rw [rd1_bad hr hd] at h; cases h
      | ok q2 =>
        obtain ⟨x, m⟩ := q2
        by_cases hx : 1048576 < x
        · rw [rd1_big hr hd hx] at h; cases h
        · rw [rd1_step hr hd (by omega)] at h
          simp only [Except.ok.injEq, Prod.mk.injEq] at h
          obtain ⟨rfl, rfl⟩ := h
          have hf := dec_form (byt_drop hy p') hd
          have hk : k = ys.length := hl.1.symm
          subst hk
          simp only [plainK]
          rw [plainK_pre _ _ (Nat.le_refl _), ih, getD_end, Int.toNat_natCast, hf, take_add]
theorem mod_next (M k : Nat) : M % 2 ^ (k + 1) = M % 2 ^ k + 2 ^ k * (M / 2 ^ k % 2) := Nat.mod_pow_succ
theorem rd2_form {b : List Int} (hy : Byt b) {M p0 : Nat} (h0 : p0 ≤ b.length) (he0 : enc M = b.take p0) : ∀ {k p : Nat} {xs : List Int}, rd2 b M p0 k = .ok (xs, p) → enc M ++ diffK xs k = b.take p ∧ maskK xs k = M % 2 ^ k
  | 0, p, xs, h => by simp only [rd2, Except.ok.injEq, Prod.mk.injEq] at h; obtain ⟨rfl, rfl⟩ := h; simp [diffK, maskK, he0, Nat.mod_one]
  | k + 1, p, xs, h => by
    cases hr : rd2 b M p0 k with
    | error e => simp only [rd2, hr] at h; cases h
    | ok q =>
      obtain ⟨ys, p'⟩ := q
      have ih := rd2_form hy h0 he0 hr
      have hl := rd2_len hy h0 hr
      have hk : k = ys.length := hl.1.symm
      subst hk
      by_cases hb : M / 2 ^ ys.length % 2 = 1
      · cases he : entry (last0 ys) (b.drop p') with
        | error e => rw [rd2_bad hr hb he] at h; cases h
        | ok q2 =>
          obtain ⟨y, m⟩ := q2
          rw [rd2_set hr hb he] at h
          simp only [Except.ok.injEq, Prod.mk.injEq] at h
          obtain ⟨rfl, rfl⟩ := h
          unfold entry at he
          cases hd : dec (b.drop p') with
          | error i => rw [hd] at he; cases he
          | ok q3 =>
            obtain ⟨u, m3⟩ := q3
            rw [hd] at he
            simp only at he
            split at he
            · cases he
            · rename_i hu
              split at he
              · cases he
              · simp only [Except.ok.injEq, Prod.mk.injEq] at he
                obtain ⟨rfl, rfl⟩ := he
                have hf := dec_form (byt_drop hy p') hd
                have hne : ¬ (ys ++ [last0 ys + unzig u]).getD ys.length 0 = prev (ys ++ [last0 ys + unzig u]) ys.length := by rw [getD_end, prev_end]; omega
                have hP := both_pre ys [last0 ys + unzig u] (Nat.le_refl ys.length)
                refine ⟨?_, ?_⟩
                · rw [(maskK_diff hne).2, hP.2, getD_end, prev_end, show last0 ys + unzig u - last0 ys = unzig u by omega, zig_unzig, hf, ← List.append_assoc, ih.1, take_add]
                · rw [(maskK_diff hne).1, hP.1, ih.2, mod_next, hb, Nat.mul_one]
      · rw [rd2_keep hr hb] at h
        simp only [Except.ok.injEq, Prod.mk.injEq] at h
        obtain ⟨rfl, rfl⟩ := h
        have he : (ys ++ [last0 ys]).getD ys.length 0 = prev (ys ++ [last0 ys]) ys.length := by rw [getD_end, prev_end]
        have hP := both_pre ys [last0 ys] (Nat.le_refl ys.length)
        refine ⟨by rw [(maskK_same he).2, hP.2]; exact ih.1, ?_⟩
        rw [(maskK_same he).1, hP.1, ih.2, mod_next, show M / 2 ^ ys.length % 2 = 0 by omega, Nat.mul_zero, Nat.add_zero]
end Go.Wire1
