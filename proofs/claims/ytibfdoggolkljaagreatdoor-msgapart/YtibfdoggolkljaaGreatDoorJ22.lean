import Derived.Test.YtibfdoggolkljaaGreatDoorJ21
set_option maxHeartbeats 8000000
set_option maxRecDepth 100000
namespace Go.Proofs.YtibfdoggolkljaaGreatDoor
open Go.RowKit Go.Wire1
open Go.RowKit Go.Wire1
structure Vt where
 st : Int
 sm : Bool
 vr : Int
 vw : Int
 c : Cm
 seq : Int
 deps : List Int
def vt0 : Vt := ⟨0, false, 0, 0, zeroC, 0, []⟩
def tBal (v n : Int) (kind : Nat) (row : Int) (l : List Int) (f : Int) : (Int × Int) × List Int × Int := iBalF v n kind row l f
def tVote (v n : Int) (kind : Nat) (row : Int) (l : List Int) (f : Int) : (Int × Bool) × List Int × Int := iVote v (tBal v n kind row l f).2.1 (tBal v n kind row l f).2.2
def tVb (v n : Int) (kind : Nat) (row : Int) (l : List Int) (f : Int) : (Int × Int) × List Int × Int := iBal v (tVote v n kind row l f).2.1 (tVote v n kind row l f).2.2
def tF (v n : Int) (kind : Nat) (row : Int) (l : List Int) (f : Int) : Int := refF (unl (voteB n row (tBal v n kind row l f).1.1 (tBal v n kind row l f).1.2 (tVote v n kind row l f).1.1 (tVote v n kind row l f).1.2 (tVb v n kind row l f).1.1 (tVb v n kind row l f).1.2) 54) (tVb v n kind row l f).2.2
def tLoad (v n : Int) (kind : Nat) (row : Int) (l : List Int) (f : Int) : (Cm × Int × List Int) × List Int × Int := iLoad v n ((tVote v n kind row l f).1.1 != 1) (tVb v n kind row l f).2.1 (tF v n kind row l f)
def iTold (v n : Int) (kind : Nat) (row : Int) (l : List Int) (f : Int) : ((Int × Int) × Vt) × List Int × Int :=
 if (tVote v n kind row l f).1.1 = 0 then (((tBal v n kind row l f).1, vt0), (tVote v n kind row l f).2)
 else (((tBal v n kind row l f).1, ⟨(tVote v n kind row l f).1.1, (tVote v n kind row l f).1.2, (tVb v n kind row l f).1.1, (tVb v n kind row l f).1.2, (tLoad v n kind row l f).1.1, (tLoad v n kind row l f).1.2.1, (tLoad v n kind row l f).1.2.2⟩), (tLoad v n kind row l f).2)
theorem Vf8 {v n : Int} (h : v = 1) : Vf v n 8 = some (.func (.func 30) #[] #[]) := by unfold Vf; simp [h]
theorem Vf8' {v n : Int} (h : v ≠ 1) : Vf v n 8 = some (.func (.func 36) #[] #[]) := by unfold Vf; simp [h]
section
variable (w0 : World) (g : Nat) (v n : Int) (l : List Int)
theorem told_none1 (a : Nat → Addr) (kind : Nat) (row num : Int) (f : Int) (w : World) (hk : kind < 10) (he : Errs w0 a) (hKc : Knd w0) (hK : Kmd w0) (h : Scx w0 w g (Vf v n) l f) (x y : Int) (l1 : List Int) (f1 : Int) (e1 : Hid (iBalF v n kind row l f = ((x, y), l1, f1))) (HV : Hid (v = 1)) (sm : Bool) (l2 : List Int) (f2 : Int) (e3 : Hid (vote1 l1 f1 = ((0, sm), l2, f2))) :
  Calls Tryz.prog 42 #[.pointer (some ⟨g, 0, none⟩), .agg #[.int .i64 kind, .int .i64 row, .int .i64 num]] w fun r w' => ∃ u, r = .returned (.iface 85 (.agg #[.int .i64 kind, .int .i64 row, .int .i64 num, .int .i64 x, .int .i64 y])) ∧ DV w' w.heap.size u [] ∧ Touch g w w' ∧ Scx w0 w' g (Vf v n) l2 f2 := by
 obtain ⟨U, hU⟩ : ∃ U, U = w.alloc (.cells #[.int .i64 kind, .int .i64 row, .int .i64 num] 72) := ⟨_, rfl⟩
 have B0 : Hid (Below w.heap.size w U) := by rw [hU]; exact (Below.refl _ w).alloc zN _
 have HH : Hid (Blk U w.heap.size [.int .i64 kind, .int .i64 row, .int .i64 num]) := by rw [hU]; exact blk_new w 72 [.int .i64 kind, .int .i64 row, .int .i64 num]
 have hgl := h.lt
 have HW := hide h.low.size
 have HX : Hid (Scx w0 U g (Vf v n) l f) := h.below B0.out
 have T0 : Hid (Touch g w U) := Touch.ofBelow B0.out
 have HE := hide he
 have HKm := hide hK
 have HKc := hide hKc
 clear h he hK hKc
 go_enter Tryz.func42, Tryz.ntmps42
 go_wp2_with fail
 rw [← hU]
 clear hU
 refine (sballot_any w0 g v n l a kind row num f _ hk HE.out HKm.out HX.out).mono ?_
 rintro r w1 ⟨rfl, T1, S1⟩
 rw [e1.out] at S1 ⊢
 simp only at S1 ⊢
 obtain ⟨X, hX⟩ : ∃ X, X = w1.alloc (.cells #[.int .i64 x, .int .i64 y] 25) := ⟨_, rfl⟩
 have BX : Hid (Below w1.heap.size w1 X) := by rw [hX]; exact (Below.refl _ _).alloc zN _
 have HT1 : Hid (Touch g w X) := (T0.out.trans T1).trans (Touch.ofBelow BX.out)
 have HS1 : Hid (Scx w0 X g (Vf v n) l1 f1) := S1.below BX.out
 have HH1 : Hid (Blk X w.heap.size [.int .i64 kind, .int .i64 row, .int .i64 num]) := (HH.out.touch T1 (by omega)).on BX.out
 have HB1 : Hid (Blk X w1.heap.size [.int .i64 x, .int .i64 y]) := by rw [hX]; exact blk_new w1 25 [.int .i64 x, .int .i64 y]
 have hw1 : w.heap.size < w1.heap.size := (HH.out.touch T1 (by omega)).lt
 clear T1 S1 HX HH T0 BX
 have r8 : X.cell? ⟨g, 8, none⟩ = some (.func (.func 30) #[] #[]) := (HS1.out.more (by omega)).trans (Vf8 HV.out)
 go_wp2
 rw [← hX]
 clear hX
 refine wp_region_noPanic ?_
 refine wp_region_held_drew (S := (fun w' => w'.cell? ⟨g, 8, none⟩ = some (.func (.func 30) #[] #[]))) (by kernel_rfl) r8 (fun hHeld => ?_)
 refine tk 0 ?_
 refine tk 1 ?_
 refine tk 2 ?_
 refine tk 3 ?_
 refine tk 4 ?_
 refine tk 5 ?_
 refine tk 6 ?_
 refine tk 7 ?_
 refine zR 8 fun K hK => ?_
 go_wp2_with fail
 refine (takeVote1_any w0 g (Vf v n) l1 f1 _ HS1.out.drew).mono ?_
 rintro e w2 ⟨rfl, T2, S2⟩
 rw [e3.out] at S2 ⊢
 simp only at S2 ⊢
 have k8 : w2.cell? ⟨g, 8, none⟩ = some (.func (.func 30) #[] #[]) := (S2.more (by omega)).trans (Vf8 HV.out)
 refine hK.out _ _ k8 (fun hHeld => ?_)
 clear hK K
 try simp only [Act.put, zA, zB, zC, zD, zE, zF]
 refine tk 9 ?_
 refine tk 10 ?_
 refine tk 11 ?_
 refine tk 12 ?_
 refine tk 13 ?_
 refine wpAnyH_done (by kernel_rfl) ?_ _
 refine NoPanic.normal ?_
 have HT2 : Hid (Touch g w w2) := HT1.out.drew.trans T2
 have HS2 := hide S2
 have HH2 := hide (HH1.out.drew.touch T2 (by omega))
 have HB2 := hide (HB1.out.drew.touch T2 (by omega))
 clear T2 S2 HT1 HS1 HH1 HB1 k8 r8 hHeld
 have h0 := HH2.out.cell 0 _ rfl
 have h1 := HH2.out.cell 1 _ rfl
 have h2 := HH2.out.cell 2 _ rfl
 have b0 := HB2.out.cell 0 _ rfl
 have b1 := HB2.out.cell 1 _ rfl
 go_wp2
 go_ret
 exact ⟨.slice none 0 0, rfl, DV.nil _ _, HT2.out, HS2.out⟩
theorem told_none2 (a : Nat → Addr) (kind : Nat) (row num : Int) (f : Int) (w : World) (hk : kind < 10) (he : Errs w0 a) (hKc : Knd w0) (hK : Kmd w0) (h : Scx w0 w g (Vf v n) l f) (x y : Int) (l1 : List Int) (f1 : Int) (e1 : Hid (iBalF v n kind row l f = ((x, y), l1, f1))) (HV : Hid (v ≠ 1)) (sm : Bool) (l2 : List Int) (f2 : Int) (e3 : Hid (vote2 l1 f1 = ((0, sm), l2, f2))) :
  Calls Tryz.prog 42 #[.pointer (some ⟨g, 0, none⟩), .agg #[.int .i64 kind, .int .i64 row, .int .i64 num]] w fun r w' => ∃ u, r = .returned (.iface 85 (.agg #[.int .i64 kind, .int .i64 row, .int .i64 num, .int .i64 x, .int .i64 y])) ∧ DV w' w.heap.size u [] ∧ Touch g w w' ∧ Scx w0 w' g (Vf v n) l2 f2 := by
 obtain ⟨U, hU⟩ : ∃ U, U = w.alloc (.cells #[.int .i64 kind, .int .i64 row, .int .i64 num] 72) := ⟨_, rfl⟩
 have B0 : Hid (Below w.heap.size w U) := by rw [hU]; exact (Below.refl _ w).alloc zN _
 have HH : Hid (Blk U w.heap.size [.int .i64 kind, .int .i64 row, .int .i64 num]) := by rw [hU]; exact blk_new w 72 [.int .i64 kind, .int .i64 row, .int .i64 num]
 have hgl := h.lt
 have HW := hide h.low.size
 have HX : Hid (Scx w0 U g (Vf v n) l f) := h.below B0.out
 have T0 : Hid (Touch g w U) := Touch.ofBelow B0.out
 have HE := hide he
 have HKm := hide hK
 have HKc := hide hKc
 clear h he hK hKc
 go_enter Tryz.func42, Tryz.ntmps42
 go_wp2_with fail
 rw [← hU]
 clear hU
 refine (sballot_any w0 g v n l a kind row num f _ hk HE.out HKm.out HX.out).mono ?_
 rintro r w1 ⟨rfl, T1, S1⟩
 rw [e1.out] at S1 ⊢
 simp only at S1 ⊢
 obtain ⟨X, hX⟩ : ∃ X, X = w1.alloc (.cells #[.int .i64 x, .int .i64 y] 25) := ⟨_, rfl⟩
 have BX : Hid (Below w1.heap.size w1 X) := by rw [hX]; exact (Below.refl _ _).alloc zN _
 have HT1 : Hid (Touch g w X) := (T0.out.trans T1).trans (Touch.ofBelow BX.out)
 have HS1 : Hid (Scx w0 X g (Vf v n) l1 f1) := S1.below BX.out
 have HH1 : Hid (Blk X w.heap.size [.int .i64 kind, .int .i64 row, .int .i64 num]) := (HH.out.touch T1 (by omega)).on BX.out
 have HB1 : Hid (Blk X w1.heap.size [.int .i64 x, .int .i64 y]) := by rw [hX]; exact blk_new w1 25 [.int .i64 x, .int .i64 y]
 have hw1 : w.heap.size < w1.heap.size := (HH.out.touch T1 (by omega)).lt
 clear T1 S1 HX HH T0 BX
 have r8 : X.cell? ⟨g, 8, none⟩ = some (.func (.func 36) #[] #[]) := (HS1.out.more (by omega)).trans (Vf8' HV.out)
 go_wp2
 rw [← hX]
 clear hX
 refine wp_region_noPanic ?_
 refine wp_region_held_drew (S := (fun w' => w'.cell? ⟨g, 8, none⟩ = some (.func (.func 36) #[] #[]))) (by kernel_rfl) r8 (fun hHeld => ?_)
 refine tk 0 ?_
 refine tk 1 ?_
 refine tk 2 ?_
 refine tk 3 ?_
 refine tk 4 ?_
 refine tk 5 ?_
 refine tk 6 ?_
 refine tk 7 ?_
 refine zR 8 fun K hK => ?_
 go_wp2_with fail
 refine (takeVote2_any w0 g (Vf v n) l1 f1 _ HS1.out.drew).mono ?_
 rintro e w2 ⟨rfl, T2, S2⟩
 rw [e3.out] at S2 ⊢
 simp only at S2 ⊢
 have k8 : w2.cell? ⟨g, 8, none⟩ = some (.func (.func 36) #[] #[]) := (S2.more (by omega)).trans (Vf8' HV.out)
 refine hK.out _ _ k8 (fun hHeld => ?_)
 clear hK K
 try simp only [Act.put, zA, zB, zC, zD, zE, zF]
 refine tk 9 ?_
 refine tk 10 ?_
 refine tk 11 ?_
 refine tk 12 ?_
 refine tk 13 ?_
 refine wpAnyH_done (by kernel_rfl) ?_ _
 refine NoPanic.normal ?_
 have HT2 : Hid (Touch g w w2) := HT1.out.drew.trans T2
 have HS2 := hide S2
 have HH2 := hide (HH1.out.drew.touch T2 (by omega))
 have HB2 := hide (HB1.out.drew.touch T2 (by omega))
 clear T2 S2 HT1 HS1 HH1 HB1 k8 r8 hHeld
 have h0 := HH2.out.cell 0 _ rfl
 have h1 := HH2.out.cell 1 _ rfl
 have h2 := HH2.out.cell 2 _ rfl
 have b0 := HB2.out.cell 0 _ rfl
 have b1 := HB2.out.cell 1 _ rfl
 go_wp2
 go_ret
 exact ⟨.slice none 0 0, rfl, DV.nil _ _, HT2.out, HS2.out⟩
end
end Go.Proofs.YtibfdoggolkljaaGreatDoor
