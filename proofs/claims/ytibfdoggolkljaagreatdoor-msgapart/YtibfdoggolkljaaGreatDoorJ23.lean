import Derived.Deep.Cut
import Derived.Deep.MidRow
import Derived.Test.YtibfdoggolkljaaGreatDoorJ22
set_option maxHeartbeats 8000000
set_option maxRecDepth 100000
namespace Go.Proofs.YtibfdoggolkljaaGreatDoor
open Go.RowKit Go.Wire1
def vtc (kind row num x y st : Int) (sm : Bool) (p q : Int) (c : Cm) (sq : Int) (u : Value) : List Value := [.int .i64 kind, .int .i64 row, .int .i64 num, .int .i64 x, .int .i64 y, .int .i64 st, .bool sm, .int .i64 p, .int .i64 q, .int .i64 c.kind, .int .i64 c.client, .int .i64 c.req, .string c.key, .string c.key2, .string c.val, .string c.old, .int .i64 c.n, .int .i64 sq, u]
def setL : List Value → Nat → List Value → List Value
 | cs, _, [] => cs
 | cs, o, v :: vs => setL (cs.set o v) (o + 1) vs
theorem blk_sets {q : Nat} : ∀ (vs : List Value) (o : Nat) (w : World) (cs : List Value), Blk w q cs → Blk (w.setCells q o vs) q (setL cs o vs)
 | [], _, _, _, h => h
 | v :: vs, o, _, _, h => blk_sets vs (o + 1) _ _ (h.setAt o v)
theorem touch_cells {g q : Nat} {w : World} (hq : w.heap.size ≤ q) : ∀ (vs : List Value) (o : Nat) (W : World), Touch g w W → Touch g w (W.setCells q o vs)
 | [], _, _, h => h
 | v :: vs, o, _, h => touch_cells hq vs (o + 1) _ (h.setNew v hq)
theorem scx_cells {w0 : World} {g q : Nat} {V : Nat → Option Value} {l : List Int} {f : Int} (hq : q ≠ g) (h0 : w0.heap.size ≤ q) : ∀ (vs : List Value) (o : Nat) (W : World), Scx w0 W g V l f → Scx w0 (W.setCells q o vs) g V l f
 | [], _, _, h => h
 | v :: vs, o, _, h => scx_cells hq h0 vs (o + 1) _ (h.other v hq h0)
theorem dv_cells {B q : Nat} {u : Value} {l : List Int} (hq : q < B) : ∀ (vs : List Value) (o : Nat) (W : World), DV W B u l → DV (W.setCells q o vs) B u l
 | [], _, _, h => h
 | v :: vs, o, _, h => dv_cells hq vs (o + 1) _ (h.set v hq)
theorem there_mid {w : World} {q : Nat} {cs : List Value} (h : Blk w q cs) (o k : Nat) (hk : o + k ≤ cs.length) : w.there q o k := fun j hj => by
 have h2 := h.there (o + j) (by omega)
 rwa [Nat.zero_add] at h2
theorem vote_vtc (kind row num x y st : Int) (sm : Bool) (p q : Int) (c : Cm) (sq : Int) (u : Value) (n : Int) (w : World) :
  Calls Tryz.prog 60 #[.agg (vtc kind row num x y st sm p q c sq u).toArray, .int .i64 n] w fun e w' => e = .returned (.int .i64 (unl (voteB n row x y st sm p q) 54)) ∧ Below w.heap.size w w' := voteFaultV_any kind row num x y st sm p q c sq u n w
theorem may_vtc (kind row num x y st : Int) (sm : Bool) (p q : Int) (c : Cm) (sq : Int) (u : Value) (w : World) :
  Calls Tryz.prog 61 #[.agg (vtc kind row num x y st sm p q c sq u).toArray] w fun e w' => e = .returned (.bool (st != 1)) ∧ Below w.heap.size w w' := mayNoopV_any kind row num x y st sm p q c sq u w
section
variable (w0 : World) (g : Nat) (v n : Int) (l : List Int)
theorem told_full1 (a : Nat → Addr) (kind : Nat) (row num : Int) (f : Int) (w : World) (hk : kind < 10) (he : Errs w0 a) (hKc : Knd w0) (hK : Kmd w0) (h : Scx w0 w g (Vf v n) l f) (x y : Int) (l1 : List Int) (f1 : Int) (e1 : Hid (iBalF v n kind row l f = ((x, y), l1, f1))) (HV : Hid (v = 1)) (st : Int) (sm : Bool) (l2 : List Int) (f2 : Int) (e3 : Hid (vote1 l1 f1 = ((st, sm), l2, f2))) (g0 : (st == 0) = false) (p q : Int) (l3 : List Int) (f3 : Int) (e5 : Hid (iTwo l2 f2 = ((p, q), l3, f3))) (u f4 : Int) (hu : Hid (unl (voteB n row x y st sm p q) 54 = u)) (hf4 : Hid (refF u f3 = f4)) (may : Bool) (hmay : Hid ((st != 1) = may)) (c : Cm) (sq : Int) (dl l4 : List Int) (f5 : Int) (e6 : Hid (iLoad v n may l3 f4 = ((c, sq, dl), l4, f5))) :
  Calls Tryz.prog 42 #[.pointer (some ⟨g, 0, none⟩), .agg #[.int .i64 kind, .int .i64 row, .int .i64 num]] w fun r w' => ∃ u, r = .returned (.iface 87 (.agg (vtc (kind : Int) row num x y st sm p q c sq u).toArray)) ∧ DV w' w.heap.size u dl ∧ Touch g w w' ∧ Scx w0 w' g (Vf v n) l4 f5 := by
 obtain ⟨U, hU⟩ : ∃ U, U = w.alloc (.cells #[.int .i64 kind, .int .i64 row, .int .i64 num] 72) := ⟨_, rfl⟩
 have B0 : Hid (Below w.heap.size w U) := by rw [hU]; exact (Below.refl _ w).alloc zN _
 have HH : Hid (Blk U w.heap.size [.int .i64 kind, .int .i64 row, .int .i64 num]) := by rw [hU]; exact blk_new w 72 [.int .i64 kind, .int .i64 row, .int .i64 num]
 have hgl := h.lt
 have HW := hide h.low.size
 have HX : Hid (Scx w0 U g (Vf v n) l f) := h.below B0.out
 have T0 : Hid (Touch g w U) := Touch.ofBelow B0.out
 have HE := hide he
 have HKm := hide hK
 have HKc := hide hKc
 clear h he hK hKc
 go_enter Tryz.func42, Tryz.ntmps42
 go_wp2_with fail
 rw [← hU]
 clear hU
 refine (sballot_any w0 g v n l a kind row num f _ hk HE.out HKm.out HX.out).mono ?_
 rintro r w1 ⟨rfl, T1, S1⟩
 rw [e1.out] at S1 ⊢
 simp only at S1 ⊢
 obtain ⟨X, hX⟩ : ∃ X, X = w1.alloc (.cells #[.int .i64 x, .int .i64 y] 25) := ⟨_, rfl⟩
 have BX : Hid (Below w1.heap.size w1 X) := by rw [hX]; exact (Below.refl _ _).alloc zN _
 have HT1 : Hid (Touch g w X) := (T0.out.trans T1).trans (Touch.ofBelow BX.out)
 have HS1 : Hid (Scx w0 X g (Vf v n) l1 f1) := S1.below BX.out
 have HH1 : Hid (Blk X w.heap.size [.int .i64 kind, .int .i64 row, .int .i64 num]) := (HH.out.touch T1 (by omega)).on BX.out
 have HB1 : Hid (Blk X w1.heap.size [.int .i64 x, .int .i64 y]) := by rw [hX]; exact blk_new w1 25 [.int .i64 x, .int .i64 y]
 have hw1 : w.heap.size < w1.heap.size := (HH.out.touch T1 (by omega)).lt
 clear T1 S1 HX HH T0 BX
 have r8 : X.cell? ⟨g, 8, none⟩ = some (.func (.func 30) #[] #[]) := (HS1.out.more (by omega)).trans (Vf8 HV.out)
 go_wp2
 rw [← hX]
 clear hX
 refine wp_region_noPanic ?_
 refine wp_region_held_drew (S := (fun w' => w'.cell? ⟨g, 8, none⟩ = some (.func (.func 30) #[] #[]))) (by kernel_rfl) r8 (fun hHeld => ?_)
 refine tk 0 ?_
 refine tk 1 ?_
 refine tk 2 ?_
 refine tk 3 ?_
 refine tk 4 ?_
 refine tk 5 ?_
 refine tk 6 ?_
 refine tk 7 ?_
 refine zR 8 fun K hK => ?_
 go_wp2_with fail
 refine (takeVote1_any w0 g (Vf v n) l1 f1 _ HS1.out.drew).mono ?_
 rintro e w2 ⟨rfl, T2, S2⟩
 rw [e3.out] at S2 ⊢
 simp only at S2 ⊢
 have k8 : w2.cell? ⟨g, 8, none⟩ = some (.func (.func 30) #[] #[]) := (S2.more (by omega)).trans (Vf8 HV.out)
 refine hK.out _ _ k8 (fun hHeld => ?_)
 clear hK K
 try simp only [Act.put, zA, zB, zC, zD, zE, zF]
 refine tk 9 ?_
 refine tk 10 ?_
 refine tk 11 ?_
 refine tk 12 ?_
 refine tk 13 ?_
 refine wpAnyH_done (by kernel_rfl) ?_ _
 refine NoPanic.normal ?_
 have HT2 : Hid (Touch g w w2) := HT1.out.drew.trans T2
 have HS2 := hide S2
 have HH2 := hide (HH1.out.drew.touch T2 (by omega))
 have HB2 := hide (HB1.out.drew.touch T2 (by omega))
 clear T2 S2 HT1 HS1 HH1 HB1 k8 r8 hHeld
 have h0 := HH2.out.cell 0 _ rfl
 have h1 := HH2.out.cell 1 _ rfl
 have h2 := HH2.out.cell 2 _ rfl
 have b0 := HB2.out.cell 0 _ rfl
 have b1 := HB2.out.cell 1 _ rfl
 have QZ : Hid (Blk (w2.alloc (.cells #[.int .i64 0, .int .i64 0, .int .i64 0, .int .i64 0, .int .i64 0, .int .i64 0, .bool false, .int .i64 0, .int .i64 0, .int .i64 0, .int .i64 0, .int .i64 0, .string ⟨#[]⟩, .string ⟨#[]⟩, .string ⟨#[]⟩, .string ⟨#[]⟩, .int .i64 0, .int .i64 0, .slice none 0 0] 87)) w2.heap.size [.int .i64 0, .int .i64 0, .int .i64 0, .int .i64 0, .int .i64 0, .int .i64 0, .bool false, .int .i64 0, .int .i64 0, .int .i64 0, .int .i64 0, .int .i64 0, .string ⟨#[]⟩, .string ⟨#[]⟩, .string ⟨#[]⟩, .string ⟨#[]⟩, .int .i64 0, .int .i64 0, .slice none 0 0]) := blk_new w2 87 [.int .i64 0, .int .i64 0, .int .i64 0, .int .i64 0, .int .i64 0, .int .i64 0, .bool false, .int .i64 0, .int .i64 0, .int .i64 0, .int .i64 0, .int .i64 0, .string ⟨#[]⟩, .string ⟨#[]⟩, .string ⟨#[]⟩, .string ⟨#[]⟩, .int .i64 0, .int .i64 0, .slice none 0 0]
 have TZ : Hid ((w2.alloc (.cells #[.int .i64 0, .int .i64 0, .int .i64 0, .int .i64 0, .int .i64 0, .int .i64 0, .bool false, .int .i64 0, .int .i64 0, .int .i64 0, .int .i64 0, .int .i64 0, .string ⟨#[]⟩, .string ⟨#[]⟩, .string ⟨#[]⟩, .string ⟨#[]⟩, .int .i64 0, .int .i64 0, .slice none 0 0] 87)).there w2.heap.size 0 19) := QZ.out.there
 have BY : Hid (Below w2.heap.size w2 ((w2.alloc (.cells #[.int .i64 0, .int .i64 0, .int .i64 0, .int .i64 0, .int .i64 0, .int .i64 0, .bool false, .int .i64 0, .int .i64 0, .int .i64 0, .int .i64 0, .int .i64 0, .string ⟨#[]⟩, .string ⟨#[]⟩, .string ⟨#[]⟩, .string ⟨#[]⟩, .int .i64 0, .int .i64 0, .slice none 0 0] 87)).setCells w2.heap.size 0 [.int .i64 kind, .int .i64 row, .int .i64 num, .int .i64 x, .int .i64 y, .int .i64 st, .bool sm, .int .i64 0, .int .i64 0, .int .i64 0, .int .i64 0, .int .i64 0, .string ⟨#[]⟩, .string ⟨#[]⟩, .string ⟨#[]⟩, .string ⟨#[]⟩, .int .i64 0, .int .i64 0, .slice none 0 0])) := below_cells zN _ _ _ ((Below.refl _ _).alloc zN _)
 have HV3 : Hid (Blk ((w2.alloc (.cells #[.int .i64 0, .int .i64 0, .int .i64 0, .int .i64 0, .int .i64 0, .int .i64 0, .bool false, .int .i64 0, .int .i64 0, .int .i64 0, .int .i64 0, .int .i64 0, .string ⟨#[]⟩, .string ⟨#[]⟩, .string ⟨#[]⟩, .string ⟨#[]⟩, .int .i64 0, .int .i64 0, .slice none 0 0] 87)).setCells w2.heap.size 0 [.int .i64 kind, .int .i64 row, .int .i64 num, .int .i64 x, .int .i64 y, .int .i64 st, .bool sm, .int .i64 0, .int .i64 0, .int .i64 0, .int .i64 0, .int .i64 0, .string ⟨#[]⟩, .string ⟨#[]⟩, .string ⟨#[]⟩, .string ⟨#[]⟩, .int .i64 0, .int .i64 0, .slice none 0 0]) w2.heap.size (vtc (kind : Int) row num x y st sm 0 0 zeroC 0 (.slice none 0 0))) := blk_cells QZ.out rfl
 have HT3 : Hid (Touch g w ((w2.alloc (.cells #[.int .i64 0, .int .i64 0, .int .i64 0, .int .i64 0, .int .i64 0, .int .i64 0, .bool false, .int .i64 0, .int .i64 0, .int .i64 0, .int .i64 0, .int .i64 0, .string ⟨#[]⟩, .string ⟨#[]⟩, .string ⟨#[]⟩, .string ⟨#[]⟩, .int .i64 0, .int .i64 0, .slice none 0 0] 87)).setCells w2.heap.size 0 [.int .i64 kind, .int .i64 row, .int .i64 num, .int .i64 x, .int .i64 y, .int .i64 st, .bool sm, .int .i64 0, .int .i64 0, .int .i64 0, .int .i64 0, .int .i64 0, .string ⟨#[]⟩, .string ⟨#[]⟩, .string ⟨#[]⟩, .string ⟨#[]⟩, .int .i64 0, .int .i64 0, .slice none 0 0])) := HT2.out.trans (Touch.ofBelow BY.out)
 have HS3 : Hid (Scx w0 ((w2.alloc (.cells #[.int .i64 0, .int .i64 0, .int .i64 0, .int .i64 0, .int .i64 0, .int .i64 0, .bool false, .int .i64 0, .int .i64 0, .int .i64 0, .int .i64 0, .int .i64 0, .string ⟨#[]⟩, .string ⟨#[]⟩, .string ⟨#[]⟩, .string ⟨#[]⟩, .int .i64 0, .int .i64 0, .slice none 0 0] 87)).setCells w2.heap.size 0 [.int .i64 kind, .int .i64 row, .int .i64 num, .int .i64 x, .int .i64 y, .int .i64 st, .bool sm, .int .i64 0, .int .i64 0, .int .i64 0, .int .i64 0, .int .i64 0, .string ⟨#[]⟩, .string ⟨#[]⟩, .string ⟨#[]⟩, .string ⟨#[]⟩, .int .i64 0, .int .i64 0, .slice none 0 0]) g (Vf v n) l2 f2) := HS2.out.below BY.out
 have hw2 : w1.heap.size < w2.heap.size := HB2.out.lt
 clear BY HT2 HS2 HH2 HB2 QZ
 go_upto_region 6 with (first | (refine wpList_store_mid rfl 87 _ _ rfl w2.heap.size 0 #[.int .i64 kind, .int .i64 row, .int .i64 num, .int .i64 x, .int .i64 y, .int .i64 st, .bool sm, .int .i64 0, .int .i64 0, .int .i64 0, .int .i64 0, .int .i64 0, .string ⟨#[]⟩, .string ⟨#[]⟩, .string ⟨#[]⟩, .string ⟨#[]⟩, .int .i64 0, .int .i64 0, .slice none 0 0] rfl rfl TZ.out (by kernel_rfl) (by kernel_rfl) ?_))
 clear TZ h0 h1 h2 b0 b1
 generalize ((w2.alloc (.cells #[.int .i64 0, .int .i64 0, .int .i64 0, .int .i64 0, .int .i64 0, .int .i64 0, .bool false, .int .i64 0, .int .i64 0, .int .i64 0, .int .i64 0, .int .i64 0, .string ⟨#[]⟩, .string ⟨#[]⟩, .string ⟨#[]⟩, .string ⟨#[]⟩, .int .i64 0, .int .i64 0, .slice none 0 0] 87)).setCells w2.heap.size 0 [.int .i64 kind, .int .i64 row, .int .i64 num, .int .i64 x, .int .i64 y, .int .i64 st, .bool sm, .int .i64 0, .int .i64 0, .int .i64 0, .int .i64 0, .int .i64 0, .string ⟨#[]⟩, .string ⟨#[]⟩, .string ⟨#[]⟩, .string ⟨#[]⟩, .int .i64 0, .int .i64 0, .slice none 0 0]) = Y at *
 generalize (Value.agg #[.int .i64 kind, .int .i64 row, .int .i64 num, .int .i64 x, .int .i64 y, .int .i64 st, .bool sm, .int .i64 0, .int .i64 0, .int .i64 0, .int .i64 0, .int .i64 0, .string ⟨#[]⟩, .string ⟨#[]⟩, .string ⟨#[]⟩, .string ⟨#[]⟩, .int .i64 0, .int .i64 0, .slice none 0 0]) = A0
 obtain ⟨Q, hQ⟩ : ∃ Q, Q = w2.heap.size := ⟨_, rfl⟩
 rw [← hQ] at HV3 hw2 ⊢
 have HQ := hide hQ
 clear hQ
 have r7 : Y.cell? ⟨g, 7, none⟩ = some (.func (.func 29) #[] #[]) := (HS3.out.more (by omega)).trans (Vf7 HV.out)
 refine wp_region_noPanic ?_
 refine wp_region_held_drew (S := (fun w' => w'.cell? ⟨g, 7, none⟩ = some (.func (.func 29) #[] #[]))) (by kernel_rfl) r7 (fun hHeld => ?_)
 refine tk 0 ?_
 refine tk 1 ?_
 refine tk 2 ?_
 refine tk 3 ?_
 refine tk 4 ?_
 refine tk 5 ?_
 refine tk 6 ?_
 refine tk 7 ?_
 refine zR 8 fun K hK => ?_
 go_wp2_with fail
 refine (takeBallot1_any w0 g (Vf v n) l2 a f2 _ HE.out HS3.out.drew).mono ?_
 rintro e w3 ⟨rfl, T3, S3⟩
 rw [e5.out] at S3 ⊢
 simp only at S3 ⊢
 have k7 : w3.cell? ⟨g, 7, none⟩ = some (.func (.func 29) #[] #[]) := (S3.more (by omega)).trans (Vf7 HV.out)
 have V3 := HV3.out.drew.touch T3 (by omega)
 refine hK.out _ _ k7 (fun hHeld => ?_)
 clear hK K
 try simp only [Act.put, zA, zB, zC, zD, zE, zF]
 refine tk 9 ?_
 refine zR 10 fun K hK => ?_
 have z7 := V3.cell 7 _ rfl
 have z8 := V3.cell 8 _ rfl
 have y7 := V3.thaw 7
 have y8 := V3.thaw 8
 have h2g : Q ≠ g := by omega
 go_wp2_with fail
 refine hK.out _ _ ((zS _ ⟨Q, 8, none⟩ _ (.int .i64 q) h2g).trans ((zS _ ⟨Q, 7, none⟩ _ (.int .i64 p) h2g).trans k7)) (fun hHeld => ?_)
 clear hK K
 try simp only [Act.put, zA, zB, zC, zD, zE, zF]
 refine wpAnyH_done (by kernel_rfl) ?_ _
 refine NoPanic.normal ?_
 have HT4 : Hid (Touch g w ((w3.setCell ⟨Q, 7, none⟩ (.int .i64 p)).setCell ⟨Q, 8, none⟩ (.int .i64 q))) := ((HT3.out.drew.trans T3).setNew _ (by omega)).setNew _ (by omega)
 have HS4 : Hid (Scx w0 ((w3.setCell ⟨Q, 7, none⟩ (.int .i64 p)).setCell ⟨Q, 8, none⟩ (.int .i64 q)) g (Vf v n) l3 f3) := (S3.other _ (by omega) (by have := HW.out; omega)).other _ (by omega) (by have := HW.out; omega)
 have HV4 : Hid (Blk ((w3.setCell ⟨Q, 7, none⟩ (.int .i64 p)).setCell ⟨Q, 8, none⟩ (.int .i64 q)) Q (vtc (kind : Int) row num x y st sm p q zeroC 0 (.slice none 0 0))) := (V3.setAt 7 _).setAt 8 _
 clear T3 S3 V3 HT3 HS3 HV3 z7 z8 y7 y8 k7 r7 hHeld
 generalize ((w3.setCell ⟨Q, 7, none⟩ (.int .i64 p)).setCell ⟨Q, 8, none⟩ (.int .i64 q)) = W4 at *
 have n4 : W4.cell? ⟨g, 9, none⟩ = some (.int .i64 n) := HS4.out.more (by omega)
 go_upto_region 7 with fail
 refine wp_region_noPanic ?_
 refine wp_region_held_drew (S := (fun w' => w'.rangeAt Q 0 (vtc (kind : Int) row num x y st sm p q zeroC 0 (.slice none 0 0)) ∧ w'.cell? ⟨g, 9, none⟩ = some (.int .i64 n))) (by kernel_rfl) ⟨HV4.out.range, n4⟩ (fun hHeld => ?_)
 refine tk 0 ?_
 refine tk 1 ?_
 refine tk 2 ?_
 refine tq 3 rfl (yieldsIf_load_mid (by rfl) 87 _ rfl Q 0 rfl (vtc (kind : Int) row num x y st sm p q zeroC 0 (.slice none 0 0)) _ (fun _ h => h.1) Tryz.underlying87 rfl (by kernel_rfl)) ?_
 refine tk 4 ?_
 refine tk 5 ?_
 refine tk 6 ?_
 refine tk 7 ?_
 refine zR 8 fun K hK => ?_
 go_wp2_with fail
 refine (vote_vtc (kind : Int) row num x y st sm p q zeroC 0 (.slice none 0 0) n _).mono ?_
 rintro e w5 ⟨rfl, hb5⟩
 rw [hu.out]
 have V5 := Blk.on HV4.out.drew hb5
 have S5 := HS4.out.drew.below hb5
 refine hK.out _ _ ⟨V5.range, S5.more (by omega)⟩ (fun hHeld => ?_)
 clear hK K
 try simp only [Act.put, zA, zB, zC, zD, zE, zF]
 refine zR 9 fun K hK => ?_
 go_wp2_with fail
 refine (irefuse_x w0 g (Vf v n) l3 f3 u _ S5).mono ?_
 rintro e w6 ⟨rfl, T6, S6⟩
 rw [hf4.out] at S6
 have V6 := V5.touch T6 (by omega)
 refine hK.out _ _ ⟨V6.range, S6.more (by omega)⟩ (fun hHeld => ?_)
 clear hK K
 try simp only [Act.put, zA, zB, zC, zD, zE, zF]
 refine wpAnyH_done (by kernel_rfl) ?_ _
 refine NoPanic.normal ?_
 have HT6 : Hid (Touch g w w6) := (HT4.out.drew.trans (Touch.ofBelow hb5)).trans T6
 have HS6 := hide S6
 have HV6 := hide V6
 clear T6 S6 V6 V5 S5 hb5 HT4 HS4 HV4 n4 hHeld
 go_wp2_with (first | (refine wpList_load_mid rfl 87 _ rfl Q 0 rfl (vtc (kind : Int) row num x y st sm p q zeroC 0 (.slice none 0 0)) _ (HV6.out.range) Tryz.underlying87 rfl (by kernel_rfl) ?_))
 refine (may_vtc (kind : Int) row num x y st sm p q zeroC 0 (.slice none 0 0) _).mono ?_
 rintro r w7 ⟨rfl, hb7⟩
 have HT7 : Hid (Touch g w w7) := HT6.out.trans (Touch.ofBelow hb7)
 have HS7 := hide (HS6.out.below hb7)
 have HV7 := hide (HV6.out.on hb7)
 clear hb7 HT6 HS6 HV6
 generalize (Value.agg (vtc (kind : Int) row num x y st sm p q zeroC 0 (.slice none 0 0)).toArray) = A1
 rw [hmay.out]
 go_wp2_with fail
 refine (sload_any w0 g v n l3 a may f4 _ HE.out HKc.out HS7.out).mono ?_
 rintro r w8 ⟨ud, rfl, D8, T8, S8⟩
 rw [e6.out] at D8 S8 ⊢
 simp only at D8 S8 ⊢
 obtain ⟨ua, uk, uc, rfl⟩ := D8.shape
 have hs7 : Q < w7.heap.size := HV7.out.lt
 have HT8 := hide (HT7.out.trans T8)
 have HS8 := hide S8
 have HD8 := hide D8
 have V8 := hide (HV7.out.touch T8 (by omega))
 clear D8 T8 S8 HT7 HS7 HV7
 have TH8 : Hid (w8.there Q 9 10) := there_mid V8.out 9 10 (Nat.le_refl 19)
 have R : Hid (DV (w8.setCells Q 9 [.int .i64 c.kind, .int .i64 c.client, .int .i64 c.req, .string c.key, .string c.key2, .string c.val, .string c.old, .int .i64 c.n, .int .i64 sq, .slice ua uk uc]) w.heap.size (.slice ua uk uc) dl ∧ Touch g w (w8.setCells Q 9 [.int .i64 c.kind, .int .i64 c.client, .int .i64 c.req, .string c.key, .string c.key2, .string c.val, .string c.old, .int .i64 c.n, .int .i64 sq, .slice ua uk uc]) ∧ Scx w0 (w8.setCells Q 9 [.int .i64 c.kind, .int .i64 c.client, .int .i64 c.req, .string c.key, .string c.key2, .string c.val, .string c.old, .int .i64 c.n, .int .i64 sq, .slice ua uk uc]) g (Vf v n) l4 f5) := ⟨(dv_cells hs7 _ _ _ HD8.out).less (by omega), touch_cells (by omega) _ _ _ HT8.out, scx_cells (by omega) (by have := HW.out; omega) _ _ _ HS8.out⟩
 have VF : Hid (Blk (w8.setCells Q 9 [.int .i64 c.kind, .int .i64 c.client, .int .i64 c.req, .string c.key, .string c.key2, .string c.val, .string c.old, .int .i64 c.n, .int .i64 sq, .slice ua uk uc]) Q (vtc (kind : Int) row num x y st sm p q c sq (.slice ua uk uc))) := blk_sets _ 9 _ _ V8.out
 clear V8 HD8 HT8 HS8
 go_upto_region 9 with (first | (refine wpList_store_mid rfl 76 _ _ rfl Q 9 #[.int .i64 c.kind, .int .i64 c.client, .int .i64 c.req, .string c.key, .string c.key2, .string c.val, .string c.old, .int .i64 c.n, .int .i64 sq, .slice ua uk uc] rfl rfl TH8.out (by kernel_rfl) (by kernel_rfl) ?_))
 generalize (w8.setCells Q 9 [.int .i64 c.kind, .int .i64 c.client, .int .i64 c.req, .string c.key, .string c.key2, .string c.val, .string c.old, .int .i64 c.n, .int .i64 sq, .slice ua uk uc]) = W9 at *
 refine wp_region_lit ?_
 refine wpList_load_mid rfl 87 _ rfl Q 0 rfl (vtc (kind : Int) row num x y st sm p q c sq (.slice ua uk uc)) _ (VF.out.range) Tryz.underlying87 rfl (by kernel_rfl) ?_
 go_wp2
 go_ret
 exact ⟨.slice ua uk uc, rfl, R.out⟩
theorem told_full2 (a : Nat → Addr) (kind : Nat) (row num : Int) (f : Int) (w : World) (hk : kind < 10) (he : Errs w0 a) (hKc : Knd w0) (hK : Kmd w0) (h : Scx w0 w g (Vf v n) l f) (x y : Int) (l1 : List Int) (f1 : Int) (e1 : Hid (iBalF v n kind row l f = ((x, y), l1, f1))) (HV : Hid (v ≠ 1)) (st : Int) (sm : Bool) (l2 : List Int) (f2 : Int) (e3 : Hid (vote2 l1 f1 = ((st, sm), l2, f2))) (g0 : (st == 0) = false) (p q : Int) (l3 : List Int) (f3 : Int) (e5 : Hid (iPack l2 f2 = ((p, q), l3, f3))) (u f4 : Int) (hu : Hid (unl (voteB n row x y st sm p q) 54 = u)) (hf4 : Hid (refF u f3 = f4)) (may : Bool) (hmay : Hid ((st != 1) = may)) (c : Cm) (sq : Int) (dl l4 : List Int) (f5 : Int) (e6 : Hid (iLoad v n may l3 f4 = ((c, sq, dl), l4, f5))) :
  Calls Tryz.prog 42 #[.pointer (some ⟨g, 0, none⟩), .agg #[.int .i64 kind, .int .i64 row, .int .i64 num]] w fun r w' => ∃ u, r = .returned (.iface 87 (.agg (vtc (kind : Int) row num x y st sm p q c sq u).toArray)) ∧ DV w' w.heap.size u dl ∧ Touch g w w' ∧ Scx w0 w' g (Vf v n) l4 f5 := by
 obtain ⟨U, hU⟩ : ∃ U, U = w.alloc (.cells #[.int .i64 kind, .int .i64 row, .int .i64 num] 72) := ⟨_, rfl⟩
 have B0 : Hid (Below w.heap.size w U) := by rw [hU]; exact (Below.refl _ w).alloc zN _
 have HH : Hid (Blk U w.heap.size [.int .i64 kind, .int .i64 row, .int .i64 num]) := by rw [hU]; exact blk_new w 72 [.int .i64 kind, .int .i64 row, .int .i64 num]
 have hgl := h.lt
 have HW := hide h.low.size
 have HX : Hid (Scx w0 U g (Vf v n) l f) := h.below B0.out
 have T0 : Hid (Touch g w U) := Touch.ofBelow B0.out
 have HE := hide he
 have HKm := hide hK
 have HKc := hide hKc
 clear h he hK hKc
 go_enter Tryz.func42, Tryz.ntmps42
 go_wp2_with fail
 rw [← hU]
 clear hU
 refine (sballot_any w0 g v n l a kind row num f _ hk HE.out HKm.out HX.out).mono ?_
 rintro r w1 ⟨rfl, T1, S1⟩
 rw [e1.out] at S1 ⊢
 simp only at S1 ⊢
 obtain ⟨X, hX⟩ : ∃ X, X = w1.alloc (.cells #[.int .i64 x, .int .i64 y] 25) := ⟨_, rfl⟩
 have BX : Hid (Below w1.heap.size w1 X) := by rw [hX]; exact (Below.refl _ _).alloc zN _
 have HT1 : Hid (Touch g w X) := (T0.out.trans T1).trans (Touch.ofBelow BX.out)
 have HS1 : Hid (Scx w0 X g (Vf v n) l1 f1) := S1.below BX.out
 have HH1 : Hid (Blk X w.heap.size [.int .i64 kind, .int .i64 row, .int .i64 num]) := (HH.out.touch T1 (by omega)).on BX.out
 have HB1 : Hid (Blk X w1.heap.size [.int .i64 x, .int .i64 y]) := by rw [hX]; exact blk_new w1 25 [.int .i64 x, .int .i64 y]
 have hw1 : w.heap.size < w1.heap.size := (HH.out.touch T1 (by omega)).lt
 clear T1 S1 HX HH T0 BX
 have r8 : X.cell? ⟨g, 8, none⟩ = some (.func (.func 36) #[] #[]) := (HS1.out.more (by omega)).trans (Vf8' HV.out)
 go_wp2
 rw [← hX]
 clear hX
 refine wp_region_noPanic ?_
 refine wp_region_held_drew (S := (fun w' => w'.cell? ⟨g, 8, none⟩ = some (.func (.func 36) #[] #[]))) (by kernel_rfl) r8 (fun hHeld => ?_)
 refine tk 0 ?_
 refine tk 1 ?_
 refine tk 2 ?_
 refine tk 3 ?_
 refine tk 4 ?_
 refine tk 5 ?_
 refine tk 6 ?_
 refine tk 7 ?_
 refine zR 8 fun K hK => ?_
 go_wp2_with fail
 refine (takeVote2_any w0 g (Vf v n) l1 f1 _ HS1.out.drew).mono ?_
 rintro e w2 ⟨rfl, T2, S2⟩
 rw [e3.out] at S2 ⊢
 simp only at S2 ⊢
 have k8 : w2.cell? ⟨g, 8, none⟩ = some (.func (.func 36) #[] #[]) := (S2.more (by omega)).trans (Vf8' HV.out)
 refine hK.out _ _ k8 (fun hHeld => ?_)
 clear hK K
 try simp only [Act.put, zA, zB, zC, zD, zE, zF]
 refine tk 9 ?_
 refine tk 10 ?_
 refine tk 11 ?_
 refine tk 12 ?_
 refine tk 13 ?_
 refine wpAnyH_done (by kernel_rfl) ?_ _
 refine NoPanic.normal ?_
 have HT2 : Hid (Touch g w w2) := HT1.out.drew.trans T2
 have HS2 := hide S2
 have HH2 := hide (HH1.out.drew.touch T2 (by omega))
 have HB2 := hide (HB1.out.drew.touch T2 (by omega))
 clear T2 S2 HT1 HS1 HH1 HB1 k8 r8 hHeld
 have h0 := HH2.out.cell 0 _ rfl
 have h1 := HH2.out.cell 1 _ rfl
 have h2 := HH2.out.cell 2 _ rfl
 have b0 := HB2.out.cell 0 _ rfl
 have b1 := HB2.out.cell 1 _ rfl
 have QZ : Hid (Blk (w2.alloc (.cells #[.int .i64 0, .int .i64 0, .int .i64 0, .int .i64 0, .int .i64 0, .int .i64 0, .bool false, .int .i64 0, .int .i64 0, .int .i64 0, .int .i64 0, .int .i64 0, .string ⟨#[]⟩, .string ⟨#[]⟩, .string ⟨#[]⟩, .string ⟨#[]⟩, .int .i64 0, .int .i64 0, .slice none 0 0] 87)) w2.heap.size [.int .i64 0, .int .i64 0, .int .i64 0, .int .i64 0, .int .i64 0, .int .i64 0, .bool false, .int .i64 0, .int .i64 0, .int .i64 0, .int .i64 0, .int .i64 0, .string ⟨#[]⟩, .string ⟨#[]⟩, .string ⟨#[]⟩, .string ⟨#[]⟩, .int .i64 0, .int .i64 0, .slice none 0 0]) := blk_new w2 87 [.int .i64 0, .int .i64 0, .int .i64 0, .int .i64 0, .int .i64 0, .int .i64 0, .bool false, .int .i64 0, .int .i64 0, .int .i64 0, .int .i64 0, .int .i64 0, .string ⟨#[]⟩, .string ⟨#[]⟩, .string ⟨#[]⟩, .string ⟨#[]⟩, .int .i64 0, .int .i64 0, .slice none 0 0]
 have TZ : Hid ((w2.alloc (.cells #[.int .i64 0, .int .i64 0, .int .i64 0, .int .i64 0, .int .i64 0, .int .i64 0, .bool false, .int .i64 0, .int .i64 0, .int .i64 0, .int .i64 0, .int .i64 0, .string ⟨#[]⟩, .string ⟨#[]⟩, .string ⟨#[]⟩, .string ⟨#[]⟩, .int .i64 0, .int .i64 0, .slice none 0 0] 87)).there w2.heap.size 0 19) := QZ.out.there
 have BY : Hid (Below w2.heap.size w2 ((w2.alloc (.cells #[.int .i64 0, .int .i64 0, .int .i64 0, .int .i64 0, .int .i64 0, .int .i64 0, .bool false, .int .i64 0, .int .i64 0, .int .i64 0, .int .i64 0, .int .i64 0, .string ⟨#[]⟩, .string ⟨#[]⟩, .string ⟨#[]⟩, .string ⟨#[]⟩, .int .i64 0, .int .i64 0, .slice none 0 0] 87)).setCells w2.heap.size 0 [.int .i64 kind, .int .i64 row, .int .i64 num, .int .i64 x, .int .i64 y, .int .i64 st, .bool sm, .int .i64 0, .int .i64 0, .int .i64 0, .int .i64 0, .int .i64 0, .string ⟨#[]⟩, .string ⟨#[]⟩, .string ⟨#[]⟩, .string ⟨#[]⟩, .int .i64 0, .int .i64 0, .slice none 0 0])) := below_cells zN _ _ _ ((Below.refl _ _).alloc zN _)
 have HV3 : Hid (Blk ((w2.alloc (.cells #[.int .i64 0, .int .i64 0, .int .i64 0, .int .i64 0, .int .i64 0, .int .i64 0, .bool false, .int .i64 0, .int .i64 0, .int .i64 0, .int .i64 0, .int .i64 0, .string ⟨#[]⟩, .string ⟨#[]⟩, .string ⟨#[]⟩, .string ⟨#[]⟩, .int .i64 0, .int .i64 0, .slice none 0 0] 87)).setCells w2.heap.size 0 [.int .i64 kind, .int .i64 row, .int .i64 num, .int .i64 x, .int .i64 y, .int .i64 st, .bool sm, .int .i64 0, .int .i64 0, .int .i64 0, .int .i64 0, .int .i64 0, .string ⟨#[]⟩, .string ⟨#[]⟩, .string ⟨#[]⟩, .string ⟨#[]⟩, .int .i64 0, .int .i64 0, .slice none 0 0]) w2.heap.size (vtc (kind : Int) row num x y st sm 0 0 zeroC 0 (.slice none 0 0))) := blk_cells QZ.out rfl
 have HT3 : Hid (Touch g w ((w2.alloc (.cells #[.int .i64 0, .int .i64 0, .int .i64 0, .int .i64 0, .int .i64 0, .int .i64 0, .bool false, .int .i64 0, .int .i64 0, .int .i64 0, .int .i64 0, .int .i64 0, .string ⟨#[]⟩, .string ⟨#[]⟩, .string ⟨#[]⟩, .string ⟨#[]⟩, .int .i64 0, .int .i64 0, .slice none 0 0] 87)).setCells w2.heap.size 0 [.int .i64 kind, .int .i64 row, .int .i64 num, .int .i64 x, .int .i64 y, .int .i64 st, .bool sm, .int .i64 0, .int .i64 0, .int .i64 0, .int .i64 0, .int .i64 0, .string ⟨#[]⟩, .string ⟨#[]⟩, .string ⟨#[]⟩, .string ⟨#[]⟩, .int .i64 0, .int .i64 0, .slice none 0 0])) := HT2.out.trans (Touch.ofBelow BY.out)
 have HS3 : Hid (Scx w0 ((w2.alloc (.cells #[.int .i64 0, .int .i64 0, .int .i64 0, .int .i64 0, .int .i64 0, .int .i64 0, .bool false, .int .i64 0, .int .i64 0, .int .i64 0, .int .i64 0, .int .i64 0, .string ⟨#[]⟩, .string ⟨#[]⟩, .string ⟨#[]⟩, .string ⟨#[]⟩, .int .i64 0, .int .i64 0, .slice none 0 0] 87)).setCells w2.heap.size 0 [.int .i64 kind, .int .i64 row, .int .i64 num, .int .i64 x, .int .i64 y, .int .i64 st, .bool sm, .int .i64 0, .int .i64 0, .int .i64 0, .int .i64 0, .int .i64 0, .string ⟨#[]⟩, .string ⟨#[]⟩, .string ⟨#[]⟩, .string ⟨#[]⟩, .int .i64 0, .int .i64 0, .slice none 0 0]) g (Vf v n) l2 f2) := HS2.out.below BY.out
 have hw2 : w1.heap.size < w2.heap.size := HB2.out.lt
 clear BY HT2 HS2 HH2 HB2 QZ
 go_upto_region 6 with (first | (refine wpList_store_mid rfl 87 _ _ rfl w2.heap.size 0 #[.int .i64 kind, .int .i64 row, .int .i64 num, .int .i64 x, .int .i64 y, .int .i64 st, .bool sm, .int .i64 0, .int .i64 0, .int .i64 0, .int .i64 0, .int .i64 0, .string ⟨#[]⟩, .string ⟨#[]⟩, .string ⟨#[]⟩, .string ⟨#[]⟩, .int .i64 0, .int .i64 0, .slice none 0 0] rfl rfl TZ.out (by kernel_rfl) (by kernel_rfl) ?_))
 clear TZ h0 h1 h2 b0 b1
 generalize ((w2.alloc (.cells #[.int .i64 0, .int .i64 0, .int .i64 0, .int .i64 0, .int .i64 0, .int .i64 0, .bool false, .int .i64 0, .int .i64 0, .int .i64 0, .int .i64 0, .int .i64 0, .string ⟨#[]⟩, .string ⟨#[]⟩, .string ⟨#[]⟩, .string ⟨#[]⟩, .int .i64 0, .int .i64 0, .slice none 0 0] 87)).setCells w2.heap.size 0 [.int .i64 kind, .int .i64 row, .int .i64 num, .int .i64 x, .int .i64 y, .int .i64 st, .bool sm, .int .i64 0, .int .i64 0, .int .i64 0, .int .i64 0, .int .i64 0, .string ⟨#[]⟩, .string ⟨#[]⟩, .string ⟨#[]⟩, .string ⟨#[]⟩, .int .i64 0, .int .i64 0, .slice none 0 0]) = Y at *
 generalize (Value.agg #[.int .i64 kind, .int .i64 row, .int .i64 num, .int .i64 x, .int .i64 y, .int .i64 st, .bool sm, .int .i64 0, .int .i64 0, .int .i64 0, .int .i64 0, .int .i64 0, .string ⟨#[]⟩, .string ⟨#[]⟩, .string ⟨#[]⟩, .string ⟨#[]⟩, .int .i64 0, .int .i64 0, .slice none 0 0]) = A0
 obtain ⟨Q, hQ⟩ : ∃ Q, Q = w2.heap.size := ⟨_, rfl⟩
 rw [← hQ] at HV3 hw2 ⊢
 have HQ := hide hQ
 clear hQ
 have r7 : Y.cell? ⟨g, 7, none⟩ = some (.func (.func 35) #[] #[]) := (HS3.out.more (by omega)).trans (Vf7' HV.out)
 refine wp_region_noPanic ?_
 refine wp_region_held_drew (S := (fun w' => w'.cell? ⟨g, 7, none⟩ = some (.func (.func 35) #[] #[]))) (by kernel_rfl) r7 (fun hHeld => ?_)
 refine tk 0 ?_
 refine tk 1 ?_
 refine tk 2 ?_
 refine tk 3 ?_
 refine tk 4 ?_
 refine tk 5 ?_
 refine tk 6 ?_
 refine tk 7 ?_
 refine zR 8 fun K hK => ?_
 go_wp2_with fail
 refine (takeBallot2_any w0 g (Vf v n) l2 a f2 _ HE.out HS3.out.drew).mono ?_
 rintro e w3 ⟨rfl, T3, S3⟩
 rw [e5.out] at S3 ⊢
 simp only at S3 ⊢
 have k7 : w3.cell? ⟨g, 7, none⟩ = some (.func (.func 35) #[] #[]) := (S3.more (by omega)).trans (Vf7' HV.out)
 have V3 := HV3.out.drew.touch T3 (by omega)
 refine hK.out _ _ k7 (fun hHeld => ?_)
 clear hK K
 try simp only [Act.put, zA, zB, zC, zD, zE, zF]
 refine tk 9 ?_
 refine zR 10 fun K hK => ?_
 have z7 := V3.cell 7 _ rfl
 have z8 := V3.cell 8 _ rfl
 have y7 := V3.thaw 7
 have y8 := V3.thaw 8
 have h2g : Q ≠ g := by omega
 go_wp2_with fail
 refine hK.out _ _ ((zS _ ⟨Q, 8, none⟩ _ (.int .i64 q) h2g).trans ((zS _ ⟨Q, 7, none⟩ _ (.int .i64 p) h2g).trans k7)) (fun hHeld => ?_)
 clear hK K
 try simp only [Act.put, zA, zB, zC, zD, zE, zF]
 refine wpAnyH_done (by kernel_rfl) ?_ _
 refine NoPanic.normal ?_
 have HT4 : Hid (Touch g w ((w3.setCell ⟨Q, 7, none⟩ (.int .i64 p)).setCell ⟨Q, 8, none⟩ (.int .i64 q))) := ((HT3.out.drew.trans T3).setNew _ (by omega)).setNew _ (by omega)
 have HS4 : Hid (Scx w0 ((w3.setCell ⟨Q, 7, none⟩ (.int .i64 p)).setCell ⟨Q, 8, none⟩ (.int .i64 q)) g (Vf v n) l3 f3) := (S3.other _ (by omega) (by have := HW.out; omega)).other _ (by omega) (by have := HW.out; omega)
 have HV4 : Hid (Blk ((w3.setCell ⟨Q, 7, none⟩ (.int .i64 p)).setCell ⟨Q, 8, none⟩ (.int .i64 q)) Q (vtc (kind : Int) row num x y st sm p q zeroC 0 (.slice none 0 0))) := (V3.setAt 7 _).setAt 8 _
 clear T3 S3 V3 HT3 HS3 HV3 z7 z8 y7 y8 k7 r7 hHeld
 generalize ((w3.setCell ⟨Q, 7, none⟩ (.int .i64 p)).setCell ⟨Q, 8, none⟩ (.int .i64 q)) = W4 at *
 have n4 : W4.cell? ⟨g, 9, none⟩ = some (.int .i64 n) := HS4.out.more (by omega)
 go_upto_region 7 with fail
 refine wp_region_noPanic ?_
 refine wp_region_held_drew (S := (fun w' => w'.rangeAt Q 0 (vtc (kind : Int) row num x y st sm p q zeroC 0 (.slice none 0 0)) ∧ w'.cell? ⟨g, 9, none⟩ = some (.int .i64 n))) (by kernel_rfl) ⟨HV4.out.range, n4⟩ (fun hHeld => ?_)
 refine tk 0 ?_
 refine tk 1 ?_
 refine tk 2 ?_
 refine tq 3 rfl (yieldsIf_load_mid (by rfl) 87 _ rfl Q 0 rfl (vtc (kind : Int) row num x y st sm p q zeroC 0 (.slice none 0 0)) _ (fun _ h => h.1) Tryz.underlying87 rfl (by kernel_rfl)) ?_
 refine tk 4 ?_
 refine tk 5 ?_
 refine tk 6 ?_
 refine tk 7 ?_
 refine zR 8 fun K hK => ?_
 go_wp2_with fail
 refine (vote_vtc (kind : Int) row num x y st sm p q zeroC 0 (.slice none 0 0) n _).mono ?_
 rintro e w5 ⟨rfl, hb5⟩
 rw [hu.out]
 have V5 := Blk.on HV4.out.drew hb5
 have S5 := HS4.out.drew.below hb5
 refine hK.out _ _ ⟨V5.range, S5.more (by omega)⟩ (fun hHeld => ?_)
 clear hK K
 try simp only [Act.put, zA, zB, zC, zD, zE, zF]
 refine zR 9 fun K hK => ?_
 go_wp2_with fail
 refine (irefuse_x w0 g (Vf v n) l3 f3 u _ S5).mono ?_
 rintro e w6 ⟨rfl, T6, S6⟩
 rw [hf4.out] at S6
 have V6 := V5.touch T6 (by omega)
 refine hK.out _ _ ⟨V6.range, S6.more (by omega)⟩ (fun hHeld => ?_)
 clear hK K
 try simp only [Act.put, zA, zB, zC, zD, zE, zF]
 refine wpAnyH_done (by kernel_rfl) ?_ _
 refine NoPanic.normal ?_
 have HT6 : Hid (Touch g w w6) := (HT4.out.drew.trans (Touch.ofBelow hb5)).trans T6
 have HS6 := hide S6
 have HV6 := hide V6
 clear T6 S6 V6 V5 S5 hb5 HT4 HS4 HV4 n4 hHeld
 go_wp2_with (first | (refine wpList_load_mid rfl 87 _ rfl Q 0 rfl (vtc (kind : Int) row num x y st sm p q zeroC 0 (.slice none 0 0)) _ (HV6.out.range) Tryz.underlying87 rfl (by kernel_rfl) ?_))
 refine (may_vtc (kind : Int) row num x y st sm p q zeroC 0 (.slice none 0 0) _).mono ?_
 rintro r w7 ⟨rfl, hb7⟩
 have HT7 : Hid (Touch g w w7) := HT6.out.trans (Touch.ofBelow hb7)
 have HS7 := hide (HS6.out.below hb7)
 have HV7 := hide (HV6.out.on hb7)
 clear hb7 HT6 HS6 HV6
 generalize (Value.agg (vtc (kind : Int) row num x y st sm p q zeroC 0 (.slice none 0 0)).toArray) = A1
 rw [hmay.out]
 go_wp2_with fail
 refine (sload_any w0 g v n l3 a may f4 _ HE.out HKc.out HS7.out).mono ?_
 rintro r w8 ⟨ud, rfl, D8, T8, S8⟩
 rw [e6.out] at D8 S8 ⊢
 simp only at D8 S8 ⊢
 obtain ⟨ua, uk, uc, rfl⟩ := D8.shape
 have hs7 : Q < w7.heap.size := HV7.out.lt
 have HT8 := hide (HT7.out.trans T8)
 have HS8 := hide S8
 have HD8 := hide D8
 have V8 := hide (HV7.out.touch T8 (by omega))
 clear D8 T8 S8 HT7 HS7 HV7
 have TH8 : Hid (w8.there Q 9 10) := there_mid V8.out 9 10 (Nat.le_refl 19)
 have R : Hid (DV (w8.setCells Q 9 [.int .i64 c.kind, .int .i64 c.client, .int .i64 c.req, .string c.key, .string c.key2, .string c.val, .string c.old, .int .i64 c.n, .int .i64 sq, .slice ua uk uc]) w.heap.size (.slice ua uk uc) dl ∧ Touch g w (w8.setCells Q 9 [.int .i64 c.kind, .int .i64 c.client, .int .i64 c.req, .string c.key, .string c.key2, .string c.val, .string c.old, .int .i64 c.n, .int .i64 sq, .slice ua uk uc]) ∧ Scx w0 (w8.setCells Q 9 [.int .i64 c.kind, .int .i64 c.client, .int .i64 c.req, .string c.key, .string c.key2, .string c.val, .string c.old, .int .i64 c.n, .int .i64 sq, .slice ua uk uc]) g (Vf v n) l4 f5) := ⟨(dv_cells hs7 _ _ _ HD8.out).less (by omega), touch_cells (by omega) _ _ _ HT8.out, scx_cells (by omega) (by have := HW.out; omega) _ _ _ HS8.out⟩
 have VF : Hid (Blk (w8.setCells Q 9 [.int .i64 c.kind, .int .i64 c.client, .int .i64 c.req, .string c.key, .string c.key2, .string c.val, .string c.old, .int .i64 c.n, .int .i64 sq, .slice ua uk uc]) Q (vtc (kind : Int) row num x y st sm p q c sq (.slice ua uk uc))) := blk_sets _ 9 _ _ V8.out
 clear V8 HD8 HT8 HS8
 go_upto_region 9 with (first | (refine wpList_store_mid rfl 76 _ _ rfl Q 9 #[.int .i64 c.kind, .int .i64 c.client, .int .i64 c.req, .string c.key, .string c.key2, .string c.val, .string c.old, .int .i64 c.n, .int .i64 sq, .slice ua uk uc] rfl rfl TH8.out (by kernel_rfl) (by kernel_rfl) ?_))
 generalize (w8.setCells Q 9 [.int .i64 c.kind, .int .i64 c.client, .int .i64 c.req, .string c.key, .string c.key2, .string c.val, .string c.old, .int .i64 c.n, .int .i64 sq, .slice ua uk uc]) = W9 at *
 refine wp_region_lit ?_
 refine wpList_load_mid rfl 87 _ rfl Q 0 rfl (vtc (kind : Int) row num x y st sm p q c sq (.slice ua uk uc)) _ (VF.out.range) Tryz.underlying87 rfl (by kernel_rfl) ?_
 go_wp2
 go_ret
 exact ⟨.slice ua uk uc, rfl, R.out⟩
end
end Go.Proofs.YtibfdoggolkljaaGreatDoor
