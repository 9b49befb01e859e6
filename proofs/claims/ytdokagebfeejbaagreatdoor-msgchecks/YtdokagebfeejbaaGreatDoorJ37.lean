/- Texts of the proof, joined. -/
import Derived.Test.YtdokagebfeejbaaGreatDoorJ17
import Derived.Test.YtdokagebfeejbaaGreatDoorJ13
/- The contract of package command's Encode. -/
namespace Go.Proofs.YtdokagebfeejbaaGreatDoor
open Go.RowKit Go.Wire1

def encR (v : Int) (c : Cm) : List Int := if chk v c = 0 then encC c else []
theorem own_one (w : World) (B : Nat) (hB : B ≤ w.heap.size) (z : Int) : (w.alloc (.cells #[.int .u8 z] 5)).ownsRow B 5 1 (.slice (some ⟨w.heap.size, 0, none⟩) 1 1) [z].length ([z].map (Value.int .u8)) :=
  ⟨rfl, .inr ⟨w.heap.size, 1, #[.int .u8 z], rfl, hB, heap_alloc_new w _, by simp, by unfold maxLen; omega, rfl, rfl⟩⟩
theorem str_from (s : ByteArray) (i : Nat) (hi : i ≤ s.size) (V : World) : (Instr.slice 9 (.string s) (some (.int .i64 (i : Int))) none none).run Tryz.prog V = .ok (.string (s.extract i s.size)) V := by
  have := run_slice_string_l V 9 s Tryz.underlying9 .i64 (i : Int) (by omega) (by omega)
  simpa using this

set_option maxHeartbeats 4000000 in
set_option maxRecDepth 100000 in
theorem enc_k0 (v : Int) (client req : Int) (key key2 val old : ByteArray) (n : Int) (w : World) (hK : Knd w) (hk : key.size ≤ 140737488351232) (hk2 : key2.size ≤ 140737488351232) (hz : chk v ⟨0, client, req, key, key2, val, old, n⟩ = 0) :
    Calls Tryz.prog 169 #[.int .i64 v, .agg #[.int .i64 0, .int .i64 client, .int .i64 req, .string key, .string key2, .string val, .string old, .int .i64 n]] w fun e w' => ∃ u, e = .returned (.tuple #[u, .int .i64 0]) ∧ w'.ownsRow w.heap.size 5 1 u (encC ⟨0, client, req, key, key2, val, old, n⟩).length ((encC ⟨0, client, req, key, key2, val, old, n⟩).map (Value.int .u8)) ∧ Below w.heap.size w w' := by
  have HS := hide (sound_of hz)
  obtain ⟨V, hV⟩ : ∃ V, V = w.alloc (.cells #[.int .i64 0, .int .i64 client, .int .i64 req, .string key, .string key2, .string val, .string old, .int .i64 n] 27) := ⟨_, rfl⟩
  have X : Hid (CBox V w.heap.size 0 client req key key2 val old n) := by rw [hV]; exact cbox_new w 27 _ _ _ _ _ _ _ _
  have BV : Hid (Below w.heap.size w V) := by rw [hV]; exact (Below.refl _ _).alloc (Nat.le_refl _) _
  have hVs : w.heap.size ≤ V.heap.size := BV.out.size
  have HK : Hid (Knd V) := hK.below BV.out (Nat.le_refl _)
  have HZ := hide hz
  obtain ⟨x0, x1, x2, x3, x4, x5, x6, x7⟩ := X.out
  clear hK hz
  go_enter Tryz.func169, Tryz.ntmps169
  go_wp2_with fail
  rw [← hV]
  clear hV
  refine (check_any v ⟨0, client, req, key, key2, val, old, n⟩ _ HK.out hk hk2).mono ?_
  rintro e w1 ⟨rfl, hb1⟩
  rw [HZ.out]
  have B1 : Hid (Below V.heap.size V w1) := hb1
  have s1 : V.heap.size ≤ w1.heap.size := hb1.size
  clear hb1 x0 x1 x2 x3 x4 x5 x6 x7
  obtain ⟨x0, x1, x2, x3, x4, x5, x6, x7⟩ := X.out.below B1.out (Nat.le_refl _)
  have hlt : w.heap.size < w1.heap.size := cell_lt x0
  go_wp2
  go_ret2
  exact ⟨_, rfl, own_more (own_one w1 _ s1 0) hVs, BV.out.trans ((B1.out.alloc s1 _).mono hVs)⟩

set_option maxHeartbeats 4000000 in
set_option maxRecDepth 100000 in
theorem enc_k1 (v : Int) (cl rq : Nat) (key key2 val old : ByteArray) (n : Int) (w : World) (hK : Knd w) (hk : key.size ≤ 140737488351232) (hk2 : key2.size ≤ 140737488351232) (hz : chk v ⟨1, (cl : Int), (rq : Int), key, key2, val, old, n⟩ = 0) :
    Calls Tryz.prog 169 #[.int .i64 v, .agg #[.int .i64 1, .int .i64 (cl : Int), .int .i64 (rq : Int), .string key, .string key2, .string val, .string old, .int .i64 n]] w fun e w' => ∃ u, e = .returned (.tuple #[u, .int .i64 0]) ∧ w'.ownsRow w.heap.size 5 1 u (encC ⟨1, (cl : Int), (rq : Int), key, key2, val, old, n⟩).length ((encC ⟨1, (cl : Int), (rq : Int), key, key2, val, old, n⟩).map (Value.int .u8)) ∧ Below w.heap.size w w' := by
  have HS := hide (sound_of hz)
  obtain ⟨_, c1⟩ := HS.out.client (by simp)
  obtain ⟨_, r1⟩ := HS.out.req (by simp)
  obtain ⟨ky0, ky1⟩ := HS.out.key (by simp)
  simp only at c1 r1 ky0 ky1
  have lc := enc_le cl (by omega)
  have lr := enc_le rq (by omega)
  have lk := enc_le key.size (by omega)
  have lpk : (ptx key).length = (enc key.size).length + key.size := by unfold ptx; rw [List.length_append, tx_len]
  have HE : Hid (encC ⟨1, (cl : Int), (rq : Int), key, key2, val, old, n⟩ = ([(1 : Int)] ++ enc cl ++ enc rq ++ ptx key)) := by simp [Hid, encC, restC]
  obtain ⟨LL, hLL⟩ : ∃ LL, Hid (encC ⟨1, (cl : Int), (rq : Int), key, key2, val, old, n⟩ = LL) := ⟨_, rfl⟩
  rw [hLL.out]
  obtain ⟨V, hV⟩ : ∃ V, V = w.alloc (.cells #[.int .i64 1, .int .i64 (cl : Int), .int .i64 (rq : Int), .string key, .string key2, .string val, .string old, .int .i64 n] 27) := ⟨_, rfl⟩
  have X : Hid (CBox V w.heap.size 1 (cl : Int) (rq : Int) key key2 val old n) := by rw [hV]; exact cbox_new w 27 _ _ _ _ _ _ _ _
  have BV : Hid (Below w.heap.size w V) := by rw [hV]; exact (Below.refl _ _).alloc (Nat.le_refl _) _
  have hVs : w.heap.size ≤ V.heap.size := BV.out.size
  have HK : Hid (Knd V) := hK.below BV.out (Nat.le_refl _)
  have HZ := hide hz
  obtain ⟨x0, x1, x2, x3, x4, x5, x6, x7⟩ := X.out
  clear hK hz
  go_enter Tryz.func169, Tryz.ntmps169
  go_wp2_with fail
  rw [← hV]
  clear hV
  refine (check_any v ⟨1, (cl : Int), (rq : Int), key, key2, val, old, n⟩ _ HK.out hk hk2).mono ?_
  rintro e w1 ⟨rfl, hb1⟩
  rw [HZ.out]
  have B1 : Hid (Below V.heap.size V w1) := hb1
  have s1 : V.heap.size ≤ w1.heap.size := hb1.size
  clear hb1 x0 x1 x2 x3 x4 x5 x6 x7
  obtain ⟨x0, x1, x2, x3, x4, x5, x6, x7⟩ := X.out.below B1.out (Nat.le_refl _)
  have hlt : w.heap.size < w1.heap.size := cell_lt x0
  have O1 : Hid ((w1.alloc (.cells #[.int .u8 1] 5)).ownsRow V.heap.size 5 1 (.slice (some ⟨w1.heap.size, 0, none⟩) 1 1) [(1 : Int)].length ([(1 : Int)].map (Value.int .u8))) := own_one w1 _ s1 1
  have B1' : Hid (Below V.heap.size V (w1.alloc (.cells #[.int .u8 1] 5))) := B1.out.alloc s1 _
  go_wp2_with fail
  obtain ⟨wz, hwz⟩ : ∃ wz, wz = w1.alloc (.cells #[.int .u8 1] 5) := ⟨_, rfl⟩
  rw [← hwz] at O1 B1' ⊢
  clear hwz x0 x1 x2 x3 x4 x5 x6 x7
  have sz : V.heap.size ≤ wz.heap.size := B1'.out.size
  refine (putUint_any cl _ (by omega)).mono ?_
  rintro e w2a ⟨q2, rfl, o2, hb2⟩
  have Oa2 := hide (own_below O1.out hb2 (Nat.le_refl _))
  have Ba2 : Hid (Below V.heap.size V w2a) := B1'.out.trans (hb2.mono sz)
  have sa2 : V.heap.size ≤ w2a.heap.size := Ba2.out.size
  have P2 := hide o2
  have le2 : Hid (0 < (enc cl).length) := by show 0 < (enc cl).length; omega
  obtain ⟨L2, hL2⟩ : ∃ L, Hid ([(1 : Int)] ++ enc cl = L) := ⟨_, rfl⟩
  have ln2 : Hid (L2.length = 1 + (enc cl).length) := by rw [← hL2.out]; exact (List.length_append).trans (by rw [List.length_singleton])
  have ll2 : Hid ([(1 : Int)].length + (enc cl).length ≤ 1000000) := by show [(1 : Int)].length + (enc cl).length ≤ 1000000; simp only [List.length_singleton]; omega
  clear hb2 o2 O1 B1' sz
  go_wp2_with (first
    | (at_builtin; refine wpList_join rfl _ _ rfl V.heap.size _ _ _ [(1 : Int)] (enc cl) L2 hL2 rfl rfl Oa2.out P2.out le2.out ll2.out sa2 ?_))
  intro u2 w2 o2 g2
  have O2 := hide o2
  have B2 : Hid (Below V.heap.size V w2) := Ba2.out.grown g2 sa2 (fun j hj => (World.ownsRow.lt Oa2.out j hj).1)
  have s2 : V.heap.size ≤ w2.heap.size := B2.out.size
  clear o2 g2 Oa2 Ba2 P2 sa2
  obtain ⟨x0, x1, x2, x3, x4, x5, x6, x7⟩ := X.out.below B2.out (Nat.le_refl _)
  go_wp2_with fail
  refine (putUint_any rq _ (by omega)).mono ?_
  rintro e w3a ⟨q3, rfl, o3, hb3⟩
  have Oa3 := hide (own_below O2.out hb3 (Nat.le_refl _))
  have Ba3 : Hid (Below V.heap.size V w3a) := B2.out.trans (hb3.mono s2)
  have sa3 : V.heap.size ≤ w3a.heap.size := Ba3.out.size
  have P3 : Hid (w3a.ownsRow _ 5 1 q3 (enc rq).length ((enc rq).map (Value.int .u8))) := o3
  have le3 : Hid (0 < (enc rq).length) := by show 0 < (enc rq).length; omega
  obtain ⟨L3, hL3⟩ : ∃ L, Hid (L2 ++ (enc rq) = L) := ⟨_, rfl⟩
  have ln3 : Hid (L3.length = L2.length + (enc rq).length) := by rw [← hL3.out]; exact List.length_append
  have ll3 : Hid (L2.length + (enc rq).length ≤ 1000000) := by show L2.length + (enc rq).length ≤ 1000000; have z2 := ln2.out; omega
  clear hb3 o3 O2 B2 x0 x1 x2 x3 x4 x5 x6 x7
  go_wp2_with (first
    | (at_builtin; refine wpList_join rfl _ _ rfl V.heap.size _ _ _ L2 (enc rq) L3 hL3 rfl rfl Oa3.out P3.out le3.out ll3.out sa3 ?_))
  intro u3 w3 o3 g3
  have O3 := hide o3
  have B3 : Hid (Below V.heap.size V w3) := Ba3.out.grown g3 sa3 (fun j hj => (World.ownsRow.lt Oa3.out j hj).1)
  have s3 : V.heap.size ≤ w3.heap.size := B3.out.size
  clear o3 g3 Oa3 Ba3 P3 sa3
  obtain ⟨x0, x1, x2, x3, x4, x5, x6, x7⟩ := X.out.below B3.out (Nat.le_refl _)
  go_wp2_with fail
  refine (putText_any key _ hk).mono ?_
  rintro e w4a ⟨q4, rfl, o4, hb4⟩
  have Oa4 := hide (own_below O3.out hb4 (Nat.le_refl _))
  have Ba4 : Hid (Below V.heap.size V w4a) := B3.out.trans (hb4.mono s3)
  have sa4 : V.heap.size ≤ w4a.heap.size := Ba4.out.size
  have P4 : Hid (w4a.ownsRow _ 5 1 q4 (ptx key).length ((ptx key).map (Value.int .u8))) := o4
  have le4 : Hid (0 < (ptx key).length) := by show 0 < (ptx key).length; omega
  obtain ⟨L4, hL4⟩ : ∃ L, Hid (L3 ++ (ptx key) = L) := ⟨_, rfl⟩
  have ln4 : Hid (L4.length = L3.length + (ptx key).length) := by rw [← hL4.out]; exact List.length_append
  have ll4 : Hid (L3.length + (ptx key).length ≤ 1000000) := by show L3.length + (ptx key).length ≤ 1000000; have z2 := ln2.out; have z3 := ln3.out; omega
  clear hb4 o4 O3 B3 x0 x1 x2 x3 x4 x5 x6 x7
  go_wp2_with (first
    | (at_builtin; refine wpList_join rfl _ _ rfl V.heap.size _ _ _ L3 (ptx key) L4 hL4 rfl rfl Oa4.out P4.out le4.out ll4.out sa4 ?_))
  intro u4 w4 o4 g4
  have O4 := hide o4
  have B4 : Hid (Below V.heap.size V w4) := Ba4.out.grown g4 sa4 (fun j hj => (World.ownsRow.lt Oa4.out j hj).1)
  have s4 : V.heap.size ≤ w4.heap.size := B4.out.size
  clear o4 g4 Oa4 Ba4 P4 sa4
  obtain ⟨x0, x1, x2, x3, x4, x5, x6, x7⟩ := X.out.below B4.out (Nat.le_refl _)
  go_wp2
  go_ret2
  exact ⟨_, rfl, by rw [← hLL.out, HE.out, hL2.out, hL3.out, hL4.out]; exact own_more O4.out hVs, BV.out.trans (B4.out.mono hVs)⟩

set_option maxHeartbeats 4000000 in
set_option maxRecDepth 100000 in
theorem enc_k2 (v : Int) (cl rq : Nat) (key key2 val old : ByteArray) (n : Int) (w : World) (hK : Knd w) (hk : key.size ≤ 140737488351232) (hk2 : key2.size ≤ 140737488351232) (hz : chk v ⟨2, (cl : Int), (rq : Int), key, key2, val, old, n⟩ = 0) :
    Calls Tryz.prog 169 #[.int .i64 v, .agg #[.int .i64 2, .int .i64 (cl : Int), .int .i64 (rq : Int), .string key, .string key2, .string val, .string old, .int .i64 n]] w fun e w' => ∃ u, e = .returned (.tuple #[u, .int .i64 0]) ∧ w'.ownsRow w.heap.size 5 1 u (encC ⟨2, (cl : Int), (rq : Int), key, key2, val, old, n⟩).length ((encC ⟨2, (cl : Int), (rq : Int), key, key2, val, old, n⟩).map (Value.int .u8)) ∧ Below w.heap.size w w' := by
  have HS := hide (sound_of hz)
  obtain ⟨_, c1⟩ := HS.out.client (by simp)
  obtain ⟨_, r1⟩ := HS.out.req (by simp)
  obtain ⟨ky0, ky1⟩ := HS.out.key (by simp)
  simp only at c1 r1 ky0 ky1
  have lc := enc_le cl (by omega)
  have lr := enc_le rq (by omega)
  have lk := enc_le key.size (by omega)
  have lpk : (ptx key).length = (enc key.size).length + key.size := by unfold ptx; rw [List.length_append, tx_len]
  have v5 := HS.out.val (.inl rfl)
  simp only at v5
  have lv := enc_le val.size (by omega)
  have lpv : (ptx val).length = (enc val.size).length + val.size := by unfold ptx; rw [List.length_append, tx_len]
  have HE : Hid (encC ⟨2, (cl : Int), (rq : Int), key, key2, val, old, n⟩ = ([(2 : Int)] ++ enc cl ++ enc rq ++ ptx key ++ ptx val)) := by simp [Hid, encC, restC]
  obtain ⟨LL, hLL⟩ : ∃ LL, Hid (encC ⟨2, (cl : Int), (rq : Int), key, key2, val, old, n⟩ = LL) := ⟨_, rfl⟩
  rw [hLL.out]
  obtain ⟨V, hV⟩ : ∃ V, V = w.alloc (.cells #[.int .i64 2, .int .i64 (cl : Int), .int .i64 (rq : Int), .string key, .string key2, .string val, .string old, .int .i64 n] 27) := ⟨_, rfl⟩
  have X : Hid (CBox V w.heap.size 2 (cl : Int) (rq : Int) key key2 val old n) := by rw [hV]; exact cbox_new w 27 _ _ _ _ _ _ _ _
  have BV : Hid (Below w.heap.size w V) := by rw [hV]; exact (Below.refl _ _).alloc (Nat.le_refl _) _
  have hVs : w.heap.size ≤ V.heap.size := BV.out.size
  have HK : Hid (Knd V) := hK.below BV.out (Nat.le_refl _)
  have HZ := hide hz
  obtain ⟨x0, x1, x2, x3, x4, x5, x6, x7⟩ := X.out
  clear hK hz
  go_enter Tryz.func169, Tryz.ntmps169
  go_wp2_with fail
  rw [← hV]
  clear hV
  refine (check_any v ⟨2, (cl : Int), (rq : Int), key, key2, val, old, n⟩ _ HK.out hk hk2).mono ?_
  rintro e w1 ⟨rfl, hb1⟩
  rw [HZ.out]
  have B1 : Hid (Below V.heap.size V w1) := hb1
  have s1 : V.heap.size ≤ w1.heap.size := hb1.size
  clear hb1 x0 x1 x2 x3 x4 x5 x6 x7
  obtain ⟨x0, x1, x2, x3, x4, x5, x6, x7⟩ := X.out.below B1.out (Nat.le_refl _)
  have hlt : w.heap.size < w1.heap.size := cell_lt x0
  have O1 : Hid ((w1.alloc (.cells #[.int .u8 2] 5)).ownsRow V.heap.size 5 1 (.slice (some ⟨w1.heap.size, 0, none⟩) 1 1) [(2 : Int)].length ([(2 : Int)].map (Value.int .u8))) := own_one w1 _ s1 2
  have B1' : Hid (Below V.heap.size V (w1.alloc (.cells #[.int .u8 2] 5))) := B1.out.alloc s1 _
  go_wp2_with fail
  obtain ⟨wz, hwz⟩ : ∃ wz, wz = w1.alloc (.cells #[.int .u8 2] 5) := ⟨_, rfl⟩
  rw [← hwz] at O1 B1' ⊢
  clear hwz x0 x1 x2 x3 x4 x5 x6 x7
  have sz : V.heap.size ≤ wz.heap.size := B1'.out.size
  refine (putUint_any cl _ (by omega)).mono ?_
  rintro e w2a ⟨q2, rfl, o2, hb2⟩
  have Oa2 := hide (own_below O1.out hb2 (Nat.le_refl _))
  have Ba2 : Hid (Below V.heap.size V w2a) := B1'.out.trans (hb2.mono sz)
  have sa2 : V.heap.size ≤ w2a.heap.size := Ba2.out.size
  have P2 := hide o2
  have le2 : Hid (0 < (enc cl).length) := by show 0 < (enc cl).length; omega
  obtain ⟨L2, hL2⟩ : ∃ L, Hid ([(2 : Int)] ++ enc cl = L) := ⟨_, rfl⟩
  have ln2 : Hid (L2.length = 1 + (enc cl).length) := by rw [← hL2.out]; exact (List.length_append).trans (by rw [List.length_singleton])
  have ll2 : Hid ([(2 : Int)].length + (enc cl).length ≤ 1000000) := by show [(2 : Int)].length + (enc cl).length ≤ 1000000; simp only [List.length_singleton]; omega
  clear hb2 o2 O1 B1' sz
  go_wp2_with (first
    | (at_builtin; refine wpList_join rfl _ _ rfl V.heap.size _ _ _ [(2 : Int)] (enc cl) L2 hL2 rfl rfl Oa2.out P2.out le2.out ll2.out sa2 ?_))
  intro u2 w2 o2 g2
  have O2 := hide o2
  have B2 : Hid (Below V.heap.size V w2) := Ba2.out.grown g2 sa2 (fun j hj => (World.ownsRow.lt Oa2.out j hj).1)
  have s2 : V.heap.size ≤ w2.heap.size := B2.out.size
  clear o2 g2 Oa2 Ba2 P2 sa2
  obtain ⟨x0, x1, x2, x3, x4, x5, x6, x7⟩ := X.out.below B2.out (Nat.le_refl _)
  go_wp2_with fail
  refine (putUint_any rq _ (by omega)).mono ?_
  rintro e w3a ⟨q3, rfl, o3, hb3⟩
  have Oa3 := hide (own_below O2.out hb3 (Nat.le_refl _))
  have Ba3 : Hid (Below V.heap.size V w3a) := B2.out.trans (hb3.mono s2)
  have sa3 : V.heap.size ≤ w3a.heap.size := Ba3.out.size
  have P3 : Hid (w3a.ownsRow _ 5 1 q3 (enc rq).length ((enc rq).map (Value.int .u8))) := o3
  have le3 : Hid (0 < (enc rq).length) := by show 0 < (enc rq).length; omega
  obtain ⟨L3, hL3⟩ : ∃ L, Hid (L2 ++ (enc rq) = L) := ⟨_, rfl⟩
  have ln3 : Hid (L3.length = L2.length + (enc rq).length) := by rw [← hL3.out]; exact List.length_append
  have ll3 : Hid (L2.length + (enc rq).length ≤ 1000000) := by show L2.length + (enc rq).length ≤ 1000000; have z2 := ln2.out; omega
  clear hb3 o3 O2 B2 x0 x1 x2 x3 x4 x5 x6 x7
  go_wp2_with (first
    | (at_builtin; refine wpList_join rfl _ _ rfl V.heap.size _ _ _ L2 (enc rq) L3 hL3 rfl rfl Oa3.out P3.out le3.out ll3.out sa3 ?_))
  intro u3 w3 o3 g3
  have O3 := hide o3
  have B3 : Hid (Below V.heap.size V w3) := Ba3.out.grown g3 sa3 (fun j hj => (World.ownsRow.lt Oa3.out j hj).1)
  have s3 : V.heap.size ≤ w3.heap.size := B3.out.size
  clear o3 g3 Oa3 Ba3 P3 sa3
  obtain ⟨x0, x1, x2, x3, x4, x5, x6, x7⟩ := X.out.below B3.out (Nat.le_refl _)
  go_wp2_with fail
  refine (putText_any key _ hk).mono ?_
  rintro e w4a ⟨q4, rfl, o4, hb4⟩
  have Oa4 := hide (own_below O3.out hb4 (Nat.le_refl _))
  have Ba4 : Hid (Below V.heap.size V w4a) := B3.out.trans (hb4.mono s3)
  have sa4 : V.heap.size ≤ w4a.heap.size := Ba4.out.size
  have P4 : Hid (w4a.ownsRow _ 5 1 q4 (ptx key).length ((ptx key).map (Value.int .u8))) := o4
  have le4 : Hid (0 < (ptx key).length) := by show 0 < (ptx key).length; omega
  obtain ⟨L4, hL4⟩ : ∃ L, Hid (L3 ++ (ptx key) = L) := ⟨_, rfl⟩
  have ln4 : Hid (L4.length = L3.length + (ptx key).length) := by rw [← hL4.out]; exact List.length_append
  have ll4 : Hid (L3.length + (ptx key).length ≤ 1000000) := by show L3.length + (ptx key).length ≤ 1000000; have z2 := ln2.out; have z3 := ln3.out; omega
  clear hb4 o4 O3 B3 x0 x1 x2 x3 x4 x5 x6 x7
  go_wp2_with (first
    | (at_builtin; refine wpList_join rfl _ _ rfl V.heap.size _ _ _ L3 (ptx key) L4 hL4 rfl rfl Oa4.out P4.out le4.out ll4.out sa4 ?_))
  intro u4 w4 o4 g4
  have O4 := hide o4
  have B4 : Hid (Below V.heap.size V w4) := Ba4.out.grown g4 sa4 (fun j hj => (World.ownsRow.lt Oa4.out j hj).1)
  have s4 : V.heap.size ≤ w4.heap.size := B4.out.size
  clear o4 g4 Oa4 Ba4 P4 sa4
  obtain ⟨x0, x1, x2, x3, x4, x5, x6, x7⟩ := X.out.below B4.out (Nat.le_refl _)
  go_wp2_with fail
  refine (putText_any val _ (by omega)).mono ?_
  rintro e w5a ⟨q5, rfl, o5, hb5⟩
  have Oa5 := hide (own_below O4.out hb5 (Nat.le_refl _))
  have Ba5 : Hid (Below V.heap.size V w5a) := B4.out.trans (hb5.mono s4)
  have sa5 : V.heap.size ≤ w5a.heap.size := Ba5.out.size
  have P5 : Hid (w5a.ownsRow _ 5 1 q5 (ptx val).length ((ptx val).map (Value.int .u8))) := o5
  have le5 : Hid (0 < (ptx val).length) := by show 0 < (ptx val).length; omega
  obtain ⟨L5, hL5⟩ : ∃ L, Hid (L4 ++ (ptx val) = L) := ⟨_, rfl⟩
  have ln5 : Hid (L5.length = L4.length + (ptx val).length) := by rw [← hL5.out]; exact List.length_append
  have ll5 : Hid (L4.length + (ptx val).length ≤ 1000000) := by show L4.length + (ptx val).length ≤ 1000000; have z2 := ln2.out; have z3 := ln3.out; have z4 := ln4.out; omega
  clear hb5 o5 O4 B4 x0 x1 x2 x3 x4 x5 x6 x7
  go_wp2_with (first
    | (at_builtin; refine wpList_join rfl _ _ rfl V.heap.size _ _ _ L4 (ptx val) L5 hL5 rfl rfl Oa5.out P5.out le5.out ll5.out sa5 ?_))
  intro u5 w5 o5 g5
  have O5 := hide o5
  have B5 : Hid (Below V.heap.size V w5) := Ba5.out.grown g5 sa5 (fun j hj => (World.ownsRow.lt Oa5.out j hj).1)
  have s5 : V.heap.size ≤ w5.heap.size := B5.out.size
  clear o5 g5 Oa5 Ba5 P5 sa5
  obtain ⟨x0, x1, x2, x3, x4, x5, x6, x7⟩ := X.out.below B5.out (Nat.le_refl _)
  go_wp2
  go_ret2
  exact ⟨_, rfl, by rw [← hLL.out, HE.out, hL2.out, hL3.out, hL4.out, hL5.out]; exact own_more O5.out hVs, BV.out.trans (B5.out.mono hVs)⟩

set_option maxHeartbeats 4000000 in
set_option maxRecDepth 100000 in
theorem enc_k3 (v : Int) (cl rq : Nat) (key key2 val old : ByteArray) (n : Int) (w : World) (hK : Knd w) (hk : key.size ≤ 140737488351232) (hk2 : key2.size ≤ 140737488351232) (hz : chk v ⟨3, (cl : Int), (rq : Int), key, key2, val, old, n⟩ = 0) :
    Calls Tryz.prog 169 #[.int .i64 v, .agg #[.int .i64 3, .int .i64 (cl : Int), .int .i64 (rq : Int), .string key, .string key2, .string val, .string old, .int .i64 n]] w fun e w' => ∃ u, e = .returned (.tuple #[u, .int .i64 0]) ∧ w'.ownsRow w.heap.size 5 1 u (encC ⟨3, (cl : Int), (rq : Int), key, key2, val, old, n⟩).length ((encC ⟨3, (cl : Int), (rq : Int), key, key2, val, old, n⟩).map (Value.int .u8)) ∧ Below w.heap.size w w' := by
  have HS := hide (sound_of hz)
  obtain ⟨_, c1⟩ := HS.out.client (by simp)
  obtain ⟨_, r1⟩ := HS.out.req (by simp)
  obtain ⟨ky0, ky1⟩ := HS.out.key (by simp)
  simp only at c1 r1 ky0 ky1
  have lc := enc_le cl (by omega)
  have lr := enc_le rq (by omega)
  have lk := enc_le key.size (by omega)
  have lpk : (ptx key).length = (enc key.size).length + key.size := by unfold ptx; rw [List.length_append, tx_len]
  have HE : Hid (encC ⟨3, (cl : Int), (rq : Int), key, key2, val, old, n⟩ = ([(3 : Int)] ++ enc cl ++ enc rq ++ ptx key)) := by simp [Hid, encC, restC]
  obtain ⟨LL, hLL⟩ : ∃ LL, Hid (encC ⟨3, (cl : Int), (rq : Int), key, key2, val, old, n⟩ = LL) := ⟨_, rfl⟩
  rw [hLL.out]
  obtain ⟨V, hV⟩ : ∃ V, V = w.alloc (.cells #[.int .i64 3, .int .i64 (cl : Int), .int .i64 (rq : Int), .string key, .string key2, .string val, .string old, .int .i64 n] 27) := ⟨_, rfl⟩
  have X : Hid (CBox V w.heap.size 3 (cl : Int) (rq : Int) key key2 val old n) := by rw [hV]; exact cbox_new w 27 _ _ _ _ _ _ _ _
  have BV : Hid (Below w.heap.size w V) := by rw [hV]; exact (Below.refl _ _).alloc (Nat.le_refl _) _
  have hVs : w.heap.size ≤ V.heap.size := BV.out.size
  have HK : Hid (Knd V) := hK.below BV.out (Nat.le_refl _)
  have HZ := hide hz
  obtain ⟨x0, x1, x2, x3, x4, x5, x6, x7⟩ := X.out
  clear hK hz
  go_enter Tryz.func169, Tryz.ntmps169
  go_wp2_with fail
  rw [← hV]
  clear hV
  refine (check_any v ⟨3, (cl : Int), (rq : Int), key, key2, val, old, n⟩ _ HK.out hk hk2).mono ?_
  rintro e w1 ⟨rfl, hb1⟩
  rw [HZ.out]
  have B1 : Hid (Below V.heap.size V w1) := hb1
  have s1 : V.heap.size ≤ w1.heap.size := hb1.size
  clear hb1 x0 x1 x2 x3 x4 x5 x6 x7
  obtain ⟨x0, x1, x2, x3, x4, x5, x6, x7⟩ := X.out.below B1.out (Nat.le_refl _)
  have hlt : w.heap.size < w1.heap.size := cell_lt x0
  have O1 : Hid ((w1.alloc (.cells #[.int .u8 3] 5)).ownsRow V.heap.size 5 1 (.slice (some ⟨w1.heap.size, 0, none⟩) 1 1) [(3 : Int)].length ([(3 : Int)].map (Value.int .u8))) := own_one w1 _ s1 3
  have B1' : Hid (Below V.heap.size V (w1.alloc (.cells #[.int .u8 3] 5))) := B1.out.alloc s1 _
  go_wp2_with fail
  obtain ⟨wz, hwz⟩ : ∃ wz, wz = w1.alloc (.cells #[.int .u8 3] 5) := ⟨_, rfl⟩
  rw [← hwz] at O1 B1' ⊢
  clear hwz x0 x1 x2 x3 x4 x5 x6 x7
  have sz : V.heap.size ≤ wz.heap.size := B1'.out.size
  refine (putUint_any cl _ (by omega)).mono ?_
  rintro e w2a ⟨q2, rfl, o2, hb2⟩
  have Oa2 := hide (own_below O1.out hb2 (Nat.le_refl _))
  have Ba2 : Hid (Below V.heap.size V w2a) := B1'.out.trans (hb2.mono sz)
  have sa2 : V.heap.size ≤ w2a.heap.size := Ba2.out.size
  have P2 := hide o2
  have le2 : Hid (0 < (enc cl).length) := by show 0 < (enc cl).length; omega
  obtain ⟨L2, hL2⟩ : ∃ L, Hid ([(3 : Int)] ++ enc cl = L) := ⟨_, rfl⟩
  have ln2 : Hid (L2.length = 1 + (enc cl).length) := by rw [← hL2.out]; exact (List.length_append).trans (by rw [List.length_singleton])
  have ll2 : Hid ([(3 : Int)].length + (enc cl).length ≤ 1000000) := by show [(3 : Int)].length + (enc cl).length ≤ 1000000; simp only [List.length_singleton]; omega
  clear hb2 o2 O1 B1' sz
  go_wp2_with (first
    | (at_builtin; refine wpList_join rfl _ _ rfl V.heap.size _ _ _ [(3 : Int)] (enc cl) L2 hL2 rfl rfl Oa2.out P2.out le2.out ll2.out sa2 ?_))
  intro u2 w2 o2 g2
  have O2 := hide o2
  have B2 : Hid (Below V.heap.size V w2) := Ba2.out.grown g2 sa2 (fun j hj => (World.ownsRow.lt Oa2.out j hj).1)
  have s2 : V.heap.size ≤ w2.heap.size := B2.out.size
  clear o2 g2 Oa2 Ba2 P2 sa2
  obtain ⟨x0, x1, x2, x3, x4, x5, x6, x7⟩ := X.out.below B2.out (Nat.le_refl _)
  go_wp2_with fail
  refine (putUint_any rq _ (by omega)).mono ?_
  rintro e w3a ⟨q3, rfl, o3, hb3⟩
  have Oa3 := hide (own_below O2.out hb3 (Nat.le_refl _))
  have Ba3 : Hid (Below V.heap.size V w3a) := B2.out.trans (hb3.mono s2)
  have sa3 : V.heap.size ≤ w3a.heap.size := Ba3.out.size
  have P3 : Hid (w3a.ownsRow _ 5 1 q3 (enc rq).length ((enc rq).map (Value.int .u8))) := o3
  have le3 : Hid (0 < (enc rq).length) := by show 0 < (enc rq).length; omega
  obtain ⟨L3, hL3⟩ : ∃ L, Hid (L2 ++ (enc rq) = L) := ⟨_, rfl⟩
  have ln3 : Hid (L3.length = L2.length + (enc rq).length) := by rw [← hL3.out]; exact List.length_append
  have ll3 : Hid (L2.length + (enc rq).length ≤ 1000000) := by show L2.length + (enc rq).length ≤ 1000000; have z2 := ln2.out; omega
  clear hb3 o3 O2 B2 x0 x1 x2 x3 x4 x5 x6 x7
  go_wp2_with (first
    | (at_builtin; refine wpList_join rfl _ _ rfl V.heap.size _ _ _ L2 (enc rq) L3 hL3 rfl rfl Oa3.out P3.out le3.out ll3.out sa3 ?_))
  intro u3 w3 o3 g3
  have O3 := hide o3
  have B3 : Hid (Below V.heap.size V w3) := Ba3.out.grown g3 sa3 (fun j hj => (World.ownsRow.lt Oa3.out j hj).1)
  have s3 : V.heap.size ≤ w3.heap.size := B3.out.size
  clear o3 g3 Oa3 Ba3 P3 sa3
  obtain ⟨x0, x1, x2, x3, x4, x5, x6, x7⟩ := X.out.below B3.out (Nat.le_refl _)
  go_wp2_with fail
  refine (putText_any key _ hk).mono ?_
  rintro e w4a ⟨q4, rfl, o4, hb4⟩
  have Oa4 := hide (own_below O3.out hb4 (Nat.le_refl _))
  have Ba4 : Hid (Below V.heap.size V w4a) := B3.out.trans (hb4.mono s3)
  have sa4 : V.heap.size ≤ w4a.heap.size := Ba4.out.size
  have P4 : Hid (w4a.ownsRow _ 5 1 q4 (ptx key).length ((ptx key).map (Value.int .u8))) := o4
  have le4 : Hid (0 < (ptx key).length) := by show 0 < (ptx key).length; omega
  obtain ⟨L4, hL4⟩ : ∃ L, Hid (L3 ++ (ptx key) = L) := ⟨_, rfl⟩
  have ln4 : Hid (L4.length = L3.length + (ptx key).length) := by rw [← hL4.out]; exact List.length_append
  have ll4 : Hid (L3.length + (ptx key).length ≤ 1000000) := by show L3.length + (ptx key).length ≤ 1000000; have z2 := ln2.out; have z3 := ln3.out; omega
  clear hb4 o4 O3 B3 x0 x1 x2 x3 x4 x5 x6 x7
  go_wp2_with (first
    | (at_builtin; refine wpList_join rfl _ _ rfl V.heap.size _ _ _ L3 (ptx key) L4 hL4 rfl rfl Oa4.out P4.out le4.out ll4.out sa4 ?_))
  intro u4 w4 o4 g4
  have O4 := hide o4
  have B4 : Hid (Below V.heap.size V w4) := Ba4.out.grown g4 sa4 (fun j hj => (World.ownsRow.lt Oa4.out j hj).1)
  have s4 : V.heap.size ≤ w4.heap.size := B4.out.size
  clear o4 g4 Oa4 Ba4 P4 sa4
  obtain ⟨x0, x1, x2, x3, x4, x5, x6, x7⟩ := X.out.below B4.out (Nat.le_refl _)
  go_wp2
  go_ret2
  exact ⟨_, rfl, by rw [← hLL.out, HE.out, hL2.out, hL3.out, hL4.out]; exact own_more O4.out hVs, BV.out.trans (B4.out.mono hVs)⟩

set_option maxHeartbeats 4000000 in
set_option maxRecDepth 100000 in
theorem enc_k4 (v : Int) (cl rq : Nat) (key key2 val old : ByteArray) (n : Int) (w : World) (hK : Knd w) (hk : key.size ≤ 140737488351232) (hk2 : key2.size ≤ 140737488351232) (hn1 : -9223372036854775808 ≤ n) (hn2 : n ≤ 9223372036854775807) (hz : chk v ⟨4, (cl : Int), (rq : Int), key, key2, val, old, n⟩ = 0) :
    Calls Tryz.prog 169 #[.int .i64 v, .agg #[.int .i64 4, .int .i64 (cl : Int), .int .i64 (rq : Int), .string key, .string key2, .string val, .string old, .int .i64 n]] w fun e w' => ∃ u, e = .returned (.tuple #[u, .int .i64 0]) ∧ w'.ownsRow w.heap.size 5 1 u (encC ⟨4, (cl : Int), (rq : Int), key, key2, val, old, n⟩).length ((encC ⟨4, (cl : Int), (rq : Int), key, key2, val, old, n⟩).map (Value.int .u8)) ∧ Below w.heap.size w w' := by
  have HS := hide (sound_of hz)
  obtain ⟨_, c1⟩ := HS.out.client (by simp)
  obtain ⟨_, r1⟩ := HS.out.req (by simp)
  obtain ⟨ky0, ky1⟩ := HS.out.key (by simp)
  simp only at c1 r1 ky0 ky1
  have lc := enc_le cl (by omega)
  have lr := enc_le rq (by omega)
  have lk := enc_le key.size (by omega)
  have lpk : (ptx key).length = (enc key.size).length + key.size := by unfold ptx; rw [List.length_append, tx_len]
  have lz := enc_le (zig n) (zig_lt n hn1 hn2)
  have HE : Hid (encC ⟨4, (cl : Int), (rq : Int), key, key2, val, old, n⟩ = ([(4 : Int)] ++ enc cl ++ enc rq ++ ptx key ++ enc (zig n))) := by simp [Hid, encC, restC]
  obtain ⟨LL, hLL⟩ : ∃ LL, Hid (encC ⟨4, (cl : Int), (rq : Int), key, key2, val, old, n⟩ = LL) := ⟨_, rfl⟩
  rw [hLL.out]
  obtain ⟨V, hV⟩ : ∃ V, V = w.alloc (.cells #[.int .i64 4, .int .i64 (cl : Int), .int .i64 (rq : Int), .string key, .string key2, .string val, .string old, .int .i64 n] 27) := ⟨_, rfl⟩
  have X : Hid (CBox V w.heap.size 4 (cl : Int) (rq : Int) key key2 val old n) := by rw [hV]; exact cbox_new w 27 _ _ _ _ _ _ _ _
  have BV : Hid (Below w.heap.size w V) := by rw [hV]; exact (Below.refl _ _).alloc (Nat.le_refl _) _
  have hVs : w.heap.size ≤ V.heap.size := BV.out.size
  have HK : Hid (Knd V) := hK.below BV.out (Nat.le_refl _)
  have HZ := hide hz
  obtain ⟨x0, x1, x2, x3, x4, x5, x6, x7⟩ := X.out
  clear hK hz
  go_enter Tryz.func169, Tryz.ntmps169
  go_wp2_with fail
  rw [← hV]
  clear hV
  refine (check_any v ⟨4, (cl : Int), (rq : Int), key, key2, val, old, n⟩ _ HK.out hk hk2).mono ?_
  rintro e w1 ⟨rfl, hb1⟩
  rw [HZ.out]
  have B1 : Hid (Below V.heap.size V w1) := hb1
  have s1 : V.heap.size ≤ w1.heap.size := hb1.size
  clear hb1 x0 x1 x2 x3 x4 x5 x6 x7
  obtain ⟨x0, x1, x2, x3, x4, x5, x6, x7⟩ := X.out.below B1.out (Nat.le_refl _)
  have hlt : w.heap.size < w1.heap.size := cell_lt x0
  have O1 : Hid ((w1.alloc (.cells #[.int .u8 4] 5)).ownsRow V.heap.size 5 1 (.slice (some ⟨w1.heap.size, 0, none⟩) 1 1) [(4 : Int)].length ([(4 : Int)].map (Value.int .u8))) := own_one w1 _ s1 4
  have B1' : Hid (Below V.heap.size V (w1.alloc (.cells #[.int .u8 4] 5))) := B1.out.alloc s1 _
  go_wp2_with fail
  obtain ⟨wz, hwz⟩ : ∃ wz, wz = w1.alloc (.cells #[.int .u8 4] 5) := ⟨_, rfl⟩
  rw [← hwz] at O1 B1' ⊢
  clear hwz x0 x1 x2 x3 x4 x5 x6 x7
  have sz : V.heap.size ≤ wz.heap.size := B1'.out.size
  refine (putUint_any cl _ (by omega)).mono ?_
  rintro e w2a ⟨q2, rfl, o2, hb2⟩
  have Oa2 := hide (own_below O1.out hb2 (Nat.le_refl _))
  have Ba2 : Hid (Below V.heap.size V w2a) := B1'.out.trans (hb2.mono sz)
  have sa2 : V.heap.size ≤ w2a.heap.size := Ba2.out.size
  have P2 := hide o2
  have le2 : Hid (0 < (enc cl).length) := by show 0 < (enc cl).length; omega
  obtain ⟨L2, hL2⟩ : ∃ L, Hid ([(4 : Int)] ++ enc cl = L) := ⟨_, rfl⟩
  have ln2 : Hid (L2.length = 1 + (enc cl).length) := by rw [← hL2.out]; exact (List.length_append).trans (by rw [List.length_singleton])
  have ll2 : Hid ([(4 : Int)].length + (enc cl).length ≤ 1000000) := by show [(4 : Int)].length + (enc cl).length ≤ 1000000; simp only [List.length_singleton]; omega
  clear hb2 o2 O1 B1' sz
  go_wp2_with (first
    | (at_builtin; refine wpList_join rfl _ _ rfl V.heap.size _ _ _ [(4 : Int)] (enc cl) L2 hL2 rfl rfl Oa2.out P2.out le2.out ll2.out sa2 ?_))
  intro u2 w2 o2 g2
  have O2 := hide o2
  have B2 : Hid (Below V.heap.size V w2) := Ba2.out.grown g2 sa2 (fun j hj => (World.ownsRow.lt Oa2.out j hj).1)
  have s2 : V.heap.size ≤ w2.heap.size := B2.out.size
  clear o2 g2 Oa2 Ba2 P2 sa2
  obtain ⟨x0, x1, x2, x3, x4, x5, x6, x7⟩ := X.out.below B2.out (Nat.le_refl _)
  go_wp2_with fail
  refine (putUint_any rq _ (by omega)).mono ?_
  rintro e w3a ⟨q3, rfl, o3, hb3⟩
  have Oa3 := hide (own_below O2.out hb3 (Nat.le_refl _))
  have Ba3 : Hid (Below V.heap.size V w3a) := B2.out.trans (hb3.mono s2)
  have sa3 : V.heap.size ≤ w3a.heap.size := Ba3.out.size
  have P3 : Hid (w3a.ownsRow _ 5 1 q3 (enc rq).length ((enc rq).map (Value.int .u8))) := o3
  have le3 : Hid (0 < (enc rq).length) := by show 0 < (enc rq).length; omega
  obtain ⟨L3, hL3⟩ : ∃ L, Hid (L2 ++ (enc rq) = L) := ⟨_, rfl⟩
  have ln3 : Hid (L3.length = L2.length + (enc rq).length) := by rw [← hL3.out]; exact List.length_append
  have ll3 : Hid (L2.length + (enc rq).length ≤ 1000000) := by show L2.length + (enc rq).length ≤ 1000000; have z2 := ln2.out; omega
  clear hb3 o3 O2 B2 x0 x1 x2 x3 x4 x5 x6 x7
  go_wp2_with (first
    | (at_builtin; refine wpList_join rfl _ _ rfl V.heap.size _ _ _ L2 (enc rq) L3 hL3 rfl rfl Oa3.out P3.out le3.out ll3.out sa3 ?_))
  intro u3 w3 o3 g3
  have O3 := hide o3
  have B3 : Hid (Below V.heap.size V w3) := Ba3.out.grown g3 sa3 (fun j hj => (World.ownsRow.lt Oa3.out j hj).1)
  have s3 : V.heap.size ≤ w3.heap.size := B3.out.size
  clear o3 g3 Oa3 Ba3 P3 sa3
  obtain ⟨x0, x1, x2, x3, x4, x5, x6, x7⟩ := X.out.below B3.out (Nat.le_refl _)
  go_wp2_with fail
  refine (putText_any key _ hk).mono ?_
  rintro e w4a ⟨q4, rfl, o4, hb4⟩
  have Oa4 := hide (own_below O3.out hb4 (Nat.le_refl _))
  have Ba4 : Hid (Below V.heap.size V w4a) := B3.out.trans (hb4.mono s3)
  have sa4 : V.heap.size ≤ w4a.heap.size := Ba4.out.size
  have P4 : Hid (w4a.ownsRow _ 5 1 q4 (ptx key).length ((ptx key).map (Value.int .u8))) := o4
  have le4 : Hid (0 < (ptx key).length) := by show 0 < (ptx key).length; omega
  obtain ⟨L4, hL4⟩ : ∃ L, Hid (L3 ++ (ptx key) = L) := ⟨_, rfl⟩
  have ln4 : Hid (L4.length = L3.length + (ptx key).length) := by rw [← hL4.out]; exact List.length_append
  have ll4 : Hid (L3.length + (ptx key).length ≤ 1000000) := by show L3.length + (ptx key).length ≤ 1000000; have z2 := ln2.out; have z3 := ln3.out; omega
  clear hb4 o4 O3 B3 x0 x1 x2 x3 x4 x5 x6 x7
  go_wp2_with (first
    | (at_builtin; refine wpList_join rfl _ _ rfl V.heap.size _ _ _ L3 (ptx key) L4 hL4 rfl rfl Oa4.out P4.out le4.out ll4.out sa4 ?_))
  intro u4 w4 o4 g4
  have O4 := hide o4
  have B4 : Hid (Below V.heap.size V w4) := Ba4.out.grown g4 sa4 (fun j hj => (World.ownsRow.lt Oa4.out j hj).1)
  have s4 : V.heap.size ≤ w4.heap.size := B4.out.size
  clear o4 g4 Oa4 Ba4 P4 sa4
  obtain ⟨x0, x1, x2, x3, x4, x5, x6, x7⟩ := X.out.below B4.out (Nat.le_refl _)
  go_wp2_with fail
  refine (putInt_any n _ hn1 hn2).mono ?_
  rintro e w5a ⟨q5, rfl, o5, hb5⟩
  have Oa5 := hide (own_below O4.out hb5 (Nat.le_refl _))
  have Ba5 : Hid (Below V.heap.size V w5a) := B4.out.trans (hb5.mono s4)
  have sa5 : V.heap.size ≤ w5a.heap.size := Ba5.out.size
  have P5 : Hid (w5a.ownsRow _ 5 1 q5 (enc (zig n)).length ((enc (zig n)).map (Value.int .u8))) := o5
  have le5 : Hid (0 < (enc (zig n)).length) := by show 0 < (enc (zig n)).length; omega
  obtain ⟨L5, hL5⟩ : ∃ L, Hid (L4 ++ (enc (zig n)) = L) := ⟨_, rfl⟩
  have ln5 : Hid (L5.length = L4.length + (enc (zig n)).length) := by rw [← hL5.out]; exact List.length_append
  have ll5 : Hid (L4.length + (enc (zig n)).length ≤ 1000000) := by show L4.length + (enc (zig n)).length ≤ 1000000; have z2 := ln2.out; have z3 := ln3.out; have z4 := ln4.out; omega
  clear hb5 o5 O4 B4 x0 x1 x2 x3 x4 x5 x6 x7
  go_wp2_with (first
    | (at_builtin; refine wpList_join rfl _ _ rfl V.heap.size _ _ _ L4 (enc (zig n)) L5 hL5 rfl rfl Oa5.out P5.out le5.out ll5.out sa5 ?_))
  intro u5 w5 o5 g5
  have O5 := hide o5
  have B5 : Hid (Below V.heap.size V w5) := Ba5.out.grown g5 sa5 (fun j hj => (World.ownsRow.lt Oa5.out j hj).1)
  have s5 : V.heap.size ≤ w5.heap.size := B5.out.size
  clear o5 g5 Oa5 Ba5 P5 sa5
  obtain ⟨x0, x1, x2, x3, x4, x5, x6, x7⟩ := X.out.below B5.out (Nat.le_refl _)
  go_wp2
  go_ret2
  exact ⟨_, rfl, by rw [← hLL.out, HE.out, hL2.out, hL3.out, hL4.out, hL5.out]; exact own_more O5.out hVs, BV.out.trans (B5.out.mono hVs)⟩

set_option maxHeartbeats 4000000 in
set_option maxRecDepth 100000 in
theorem enc_k5 (v : Int) (cl rq : Nat) (key key2 val old : ByteArray) (n : Int) (w : World) (hK : Knd w) (hk : key.size ≤ 140737488351232) (hk2 : key2.size ≤ 140737488351232) (hz : chk v ⟨5, (cl : Int), (rq : Int), key, key2, val, old, n⟩ = 0) :
    Calls Tryz.prog 169 #[.int .i64 v, .agg #[.int .i64 5, .int .i64 (cl : Int), .int .i64 (rq : Int), .string key, .string key2, .string val, .string old, .int .i64 n]] w fun e w' => ∃ u, e = .returned (.tuple #[u, .int .i64 0]) ∧ w'.ownsRow w.heap.size 5 1 u (encC ⟨5, (cl : Int), (rq : Int), key, key2, val, old, n⟩).length ((encC ⟨5, (cl : Int), (rq : Int), key, key2, val, old, n⟩).map (Value.int .u8)) ∧ Below w.heap.size w w' := by
  have HS := hide (sound_of hz)
  obtain ⟨_, c1⟩ := HS.out.client (by simp)
  obtain ⟨_, r1⟩ := HS.out.req (by simp)
  obtain ⟨ky0, ky1⟩ := HS.out.key (by simp)
  simp only at c1 r1 ky0 ky1
  have lc := enc_le cl (by omega)
  have lr := enc_le rq (by omega)
  have lk := enc_le key.size (by omega)
  have lpk : (ptx key).length = (enc key.size).length + key.size := by unfold ptx; rw [List.length_append, tx_len]
  have v5 := HS.out.val (.inr rfl)
  have o5 := HS.out.old rfl
  simp only at v5 o5
  have lv := enc_le val.size (by omega)
  have lo := enc_le old.size (by omega)
  have lpv : (ptx val).length = (enc val.size).length + val.size := by unfold ptx; rw [List.length_append, tx_len]
  have lpo : (ptx old).length = (enc old.size).length + old.size := by unfold ptx; rw [List.length_append, tx_len]
  have HE : Hid (encC ⟨5, (cl : Int), (rq : Int), key, key2, val, old, n⟩ = ([(5 : Int)] ++ enc cl ++ enc rq ++ ptx key ++ ptx old ++ ptx val)) := by simp [Hid, encC, restC]
  obtain ⟨LL, hLL⟩ : ∃ LL, Hid (encC ⟨5, (cl : Int), (rq : Int), key, key2, val, old, n⟩ = LL) := ⟨_, rfl⟩
  rw [hLL.out]
  obtain ⟨V, hV⟩ : ∃ V, V = w.alloc (.cells #[.int .i64 5, .int .i64 (cl : Int), .int .i64 (rq : Int), .string key, .string key2, .string val, .string old, .int .i64 n] 27) := ⟨_, rfl⟩
  have X : Hid (CBox V w.heap.size 5 (cl : Int) (rq : Int) key key2 val old n) := by rw [hV]; exact cbox_new w 27 _ _ _ _ _ _ _ _
  have BV : Hid (Below w.heap.size w V) := by rw [hV]; exact (Below.refl _ _).alloc (Nat.le_refl _) _
  have hVs : w.heap.size ≤ V.heap.size := BV.out.size
  have HK : Hid (Knd V) := hK.below BV.out (Nat.le_refl _)
  have HZ := hide hz
  obtain ⟨x0, x1, x2, x3, x4, x5, x6, x7⟩ := X.out
  clear hK hz
  go_enter Tryz.func169, Tryz.ntmps169
  go_wp2_with fail
  rw [← hV]
  clear hV
  refine (check_any v ⟨5, (cl : Int), (rq : Int), key, key2, val, old, n⟩ _ HK.out hk hk2).mono ?_
  rintro e w1 ⟨rfl, hb1⟩
  rw [HZ.out]
  have B1 : Hid (Below V.heap.size V w1) := hb1
  have s1 : V.heap.size ≤ w1.heap.size := hb1.size
  clear hb1 x0 x1 x2 x3 x4 x5 x6 x7
  obtain ⟨x0, x1, x2, x3, x4, x5, x6, x7⟩ := X.out.below B1.out (Nat.le_refl _)
  have hlt : w.heap.size < w1.heap.size := cell_lt x0
  have O1 : Hid ((w1.alloc (.cells #[.int .u8 5] 5)).ownsRow V.heap.size 5 1 (.slice (some ⟨w1.heap.size, 0, none⟩) 1 1) [(5 : Int)].length ([(5 : Int)].map (Value.int .u8))) := own_one w1 _ s1 5
  have B1' : Hid (Below V.heap.size V (w1.alloc (.cells #[.int .u8 5] 5))) := B1.out.alloc s1 _
  go_wp2_with fail
  obtain ⟨wz, hwz⟩ : ∃ wz, wz = w1.alloc (.cells #[.int .u8 5] 5) := ⟨_, rfl⟩
  rw [← hwz] at O1 B1' ⊢
  clear hwz x0 x1 x2 x3 x4 x5 x6 x7
  have sz : V.heap.size ≤ wz.heap.size := B1'.out.size
  refine (putUint_any cl _ (by omega)).mono ?_
  rintro e w2a ⟨q2, rfl, o2, hb2⟩
  have Oa2 := hide (own_below O1.out hb2 (Nat.le_refl _))
  have Ba2 : Hid (Below V.heap.size V w2a) := B1'.out.trans (hb2.mono sz)
  have sa2 : V.heap.size ≤ w2a.heap.size := Ba2.out.size
  have P2 := hide o2
  have le2 : Hid (0 < (enc cl).length) := by show 0 < (enc cl).length; omega
  obtain ⟨L2, hL2⟩ : ∃ L, Hid ([(5 : Int)] ++ enc cl = L) := ⟨_, rfl⟩
  have ln2 : Hid (L2.length = 1 + (enc cl).length) := by rw [← hL2.out]; exact (List.length_append).trans (by rw [List.length_singleton])
  have ll2 : Hid ([(5 : Int)].length + (enc cl).length ≤ 1000000) := by show [(5 : Int)].length + (enc cl).length ≤ 1000000; simp only [List.length_singleton]; omega
  clear hb2 o2 O1 B1' sz
  go_wp2_with (first
    | (at_builtin; refine wpList_join rfl _ _ rfl V.heap.size _ _ _ [(5 : Int)] (enc cl) L2 hL2 rfl rfl Oa2.out P2.out le2.out ll2.out sa2 ?_))
  intro u2 w2 o2 g2
  have O2 := hide o2
  have B2 : Hid (Below V.heap.size V w2) := Ba2.out.grown g2 sa2 (fun j hj => (World.ownsRow.lt Oa2.out j hj).1)
  have s2 : V.heap.size ≤ w2.heap.size := B2.out.size
  clear o2 g2 Oa2 Ba2 P2 sa2
  obtain ⟨x0, x1, x2, x3, x4, x5, x6, x7⟩ := X.out.below B2.out (Nat.le_refl _)
  go_wp2_with fail
  refine (putUint_any rq _ (by omega)).mono ?_
  rintro e w3a ⟨q3, rfl, o3, hb3⟩
  have Oa3 := hide (own_below O2.out hb3 (Nat.le_refl _))
  have Ba3 : Hid (Below V.heap.size V w3a) := B2.out.trans (hb3.mono s2)
  have sa3 : V.heap.size ≤ w3a.heap.size := Ba3.out.size
  have P3 : Hid (w3a.ownsRow _ 5 1 q3 (enc rq).length ((enc rq).map (Value.int .u8))) := o3
  have le3 : Hid (0 < (enc rq).length) := by show 0 < (enc rq).length; omega
  obtain ⟨L3, hL3⟩ : ∃ L, Hid (L2 ++ (enc rq) = L) := ⟨_, rfl⟩
  have ln3 : Hid (L3.length = L2.length + (enc rq).length) := by rw [← hL3.out]; exact List.length_append
  have ll3 : Hid (L2.length + (enc rq).length ≤ 1000000) := by show L2.length + (enc rq).length ≤ 1000000; have z2 := ln2.out; omega
  clear hb3 o3 O2 B2 x0 x1 x2 x3 x4 x5 x6 x7
  go_wp2_with (first
    | (at_builtin; refine wpList_join rfl _ _ rfl V.heap.size _ _ _ L2 (enc rq) L3 hL3 rfl rfl Oa3.out P3.out le3.out ll3.out sa3 ?_))
  intro u3 w3 o3 g3
  have O3 := hide o3
  have B3 : Hid (Below V.heap.size V w3) := Ba3.out.grown g3 sa3 (fun j hj => (World.ownsRow.lt Oa3.out j hj).1)
  have s3 : V.heap.size ≤ w3.heap.size := B3.out.size
  clear o3 g3 Oa3 Ba3 P3 sa3
  obtain ⟨x0, x1, x2, x3, x4, x5, x6, x7⟩ := X.out.below B3.out (Nat.le_refl _)
  go_wp2_with fail
  refine (putText_any key _ hk).mono ?_
  rintro e w4a ⟨q4, rfl, o4, hb4⟩
  have Oa4 := hide (own_below O3.out hb4 (Nat.le_refl _))
  have Ba4 : Hid (Below V.heap.size V w4a) := B3.out.trans (hb4.mono s3)
  have sa4 : V.heap.size ≤ w4a.heap.size := Ba4.out.size
  have P4 : Hid (w4a.ownsRow _ 5 1 q4 (ptx key).length ((ptx key).map (Value.int .u8))) := o4
  have le4 : Hid (0 < (ptx key).length) := by show 0 < (ptx key).length; omega
  obtain ⟨L4, hL4⟩ : ∃ L, Hid (L3 ++ (ptx key) = L) := ⟨_, rfl⟩
  have ln4 : Hid (L4.length = L3.length + (ptx key).length) := by rw [← hL4.out]; exact List.length_append
  have ll4 : Hid (L3.length + (ptx key).length ≤ 1000000) := by show L3.length + (ptx key).length ≤ 1000000; have z2 := ln2.out; have z3 := ln3.out; omega
  clear hb4 o4 O3 B3 x0 x1 x2 x3 x4 x5 x6 x7
  go_wp2_with (first
    | (at_builtin; refine wpList_join rfl _ _ rfl V.heap.size _ _ _ L3 (ptx key) L4 hL4 rfl rfl Oa4.out P4.out le4.out ll4.out sa4 ?_))
  intro u4 w4 o4 g4
  have O4 := hide o4
  have B4 : Hid (Below V.heap.size V w4) := Ba4.out.grown g4 sa4 (fun j hj => (World.ownsRow.lt Oa4.out j hj).1)
  have s4 : V.heap.size ≤ w4.heap.size := B4.out.size
  clear o4 g4 Oa4 Ba4 P4 sa4
  obtain ⟨x0, x1, x2, x3, x4, x5, x6, x7⟩ := X.out.below B4.out (Nat.le_refl _)
  go_wp2_with fail
  refine (putText_any old _ (by omega)).mono ?_
  rintro e w5a ⟨q5, rfl, o5, hb5⟩
  have Oa5 := hide (own_below O4.out hb5 (Nat.le_refl _))
  have Ba5 : Hid (Below V.heap.size V w5a) := B4.out.trans (hb5.mono s4)
  have sa5 : V.heap.size ≤ w5a.heap.size := Ba5.out.size
  have P5 : Hid (w5a.ownsRow _ 5 1 q5 (ptx old).length ((ptx old).map (Value.int .u8))) := o5
  have le5 : Hid (0 < (ptx old).length) := by show 0 < (ptx old).length; omega
  obtain ⟨L5, hL5⟩ : ∃ L, Hid (L4 ++ (ptx old) = L) := ⟨_, rfl⟩
  have ln5 : Hid (L5.length = L4.length + (ptx old).length) := by rw [← hL5.out]; exact List.length_append
  have ll5 : Hid (L4.length + (ptx old).length ≤ 1000000) := by show L4.length + (ptx old).length ≤ 1000000; have z2 := ln2.out; have z3 := ln3.out; have z4 := ln4.out; omega
  clear hb5 o5 O4 B4 x0 x1 x2 x3 x4 x5 x6 x7
  go_wp2_with (first
    | (at_builtin; refine wpList_join rfl _ _ rfl V.heap.size _ _ _ L4 (ptx old) L5 hL5 rfl rfl Oa5.out P5.out le5.out ll5.out sa5 ?_))
  intro u5 w5 o5 g5
  have O5 := hide o5
  have B5 : Hid (Below V.heap.size V w5) := Ba5.out.grown g5 sa5 (fun j hj => (World.ownsRow.lt Oa5.out j hj).1)
  have s5 : V.heap.size ≤ w5.heap.size := B5.out.size
  clear o5 g5 Oa5 Ba5 P5 sa5
  obtain ⟨x0, x1, x2, x3, x4, x5, x6, x7⟩ := X.out.below B5.out (Nat.le_refl _)
  go_wp2_with fail
  refine (putText_any val _ (by omega)).mono ?_
  rintro e w6a ⟨q6, rfl, o6, hb6⟩
  have Oa6 := hide (own_below O5.out hb6 (Nat.le_refl _))
  have Ba6 : Hid (Below V.heap.size V w6a) := B5.out.trans (hb6.mono s5)
  have sa6 : V.heap.size ≤ w6a.heap.size := Ba6.out.size
  have P6 : Hid (w6a.ownsRow _ 5 1 q6 (ptx val).length ((ptx val).map (Value.int .u8))) := o6
  have le6 : Hid (0 < (ptx val).length) := by show 0 < (ptx val).length; omega
  obtain ⟨L6, hL6⟩ : ∃ L, Hid (L5 ++ (ptx val) = L) := ⟨_, rfl⟩
  have ln6 : Hid (L6.length = L5.length + (ptx val).length) := by rw [← hL6.out]; exact List.length_append
  have ll6 : Hid (L5.length + (ptx val).length ≤ 1000000) := by show L5.length + (ptx val).length ≤ 1000000; have z2 := ln2.out; have z3 := ln3.out; have z4 := ln4.out; have z5 := ln5.out; omega
  clear hb6 o6 O5 B5 x0 x1 x2 x3 x4 x5 x6 x7
  go_wp2_with (first
    | (at_builtin; refine wpList_join rfl _ _ rfl V.heap.size _ _ _ L5 (ptx val) L6 hL6 rfl rfl Oa6.out P6.out le6.out ll6.out sa6 ?_))
  intro u6 w6 o6 g6
  have O6 := hide o6
  have B6 : Hid (Below V.heap.size V w6) := Ba6.out.grown g6 sa6 (fun j hj => (World.ownsRow.lt Oa6.out j hj).1)
  have s6 : V.heap.size ≤ w6.heap.size := B6.out.size
  clear o6 g6 Oa6 Ba6 P6 sa6
  obtain ⟨x0, x1, x2, x3, x4, x5, x6, x7⟩ := X.out.below B6.out (Nat.le_refl _)
  go_wp2
  go_ret2
  exact ⟨_, rfl, by rw [← hLL.out, HE.out, hL2.out, hL3.out, hL4.out, hL5.out, hL6.out]; exact own_more O6.out hVs, BV.out.trans (B6.out.mono hVs)⟩

set_option maxHeartbeats 4000000 in
set_option maxRecDepth 100000 in
theorem enc_k6 (v : Int) (cl rq : Nat) (key key2 val old : ByteArray) (n : Int) (w : World) (hK : Knd w) (hk : key.size ≤ 140737488351232) (hk2 : key2.size ≤ 140737488351232) (hz : chk v ⟨6, (cl : Int), (rq : Int), key, key2, val, old, n⟩ = 0) :
    Calls Tryz.prog 169 #[.int .i64 v, .agg #[.int .i64 6, .int .i64 (cl : Int), .int .i64 (rq : Int), .string key, .string key2, .string val, .string old, .int .i64 n]] w fun e w' => ∃ u, e = .returned (.tuple #[u, .int .i64 0]) ∧ w'.ownsRow w.heap.size 5 1 u (encC ⟨6, (cl : Int), (rq : Int), key, key2, val, old, n⟩).length ((encC ⟨6, (cl : Int), (rq : Int), key, key2, val, old, n⟩).map (Value.int .u8)) ∧ Below w.heap.size w w' := by
  have HS := hide (sound_of hz)
  obtain ⟨_, c1⟩ := HS.out.client (by simp)
  obtain ⟨_, r1⟩ := HS.out.req (by simp)
  obtain ⟨ky0, ky1⟩ := HS.out.key (by simp)
  simp only at c1 r1 ky0 ky1
  have lc := enc_le cl (by omega)
  have lr := enc_le rq (by omega)
  have lk := enc_le key.size (by omega)
  have lpk : (ptx key).length = (enc key.size).length + key.size := by unfold ptx; rw [List.length_append, tx_len]
  obtain ⟨j0, j1, j2⟩ := HS.out.key2 (by simp only; omega)
  simp only at j0 j1 j2
  have sle := shared_le key key2
  obtain ⟨sh, hsh⟩ : ∃ sh, Hid (shared key key2 = sh) := ⟨_, rfl⟩
  rw [hsh.out] at sle
  have ls := enc_le sh (by omega)
  have hst := str_from key2 sh (by omega)
  obtain ⟨rs, hrs⟩ : ∃ rs, Hid (key2.extract sh key2.size = rs) := ⟨_, rfl⟩
  have lrs : rs.size = key2.size - sh := by rw [← hrs.out, ByteArray.size_extract]; omega
  rw [hrs.out] at hst
  have lq := enc_le rs.size (by omega)
  have lpr : (ptx rs).length = (enc rs.size).length + rs.size := by unfold ptx; rw [List.length_append, tx_len]
  have HE : Hid (encC ⟨6, (cl : Int), (rq : Int), key, key2, val, old, n⟩ = ([(6 : Int)] ++ enc cl ++ enc rq ++ ptx key ++ enc sh ++ ptx rs)) := by simp [Hid, encC, restC, hsh.out, hrs.out]
  obtain ⟨LL, hLL⟩ : ∃ LL, Hid (encC ⟨6, (cl : Int), (rq : Int), key, key2, val, old, n⟩ = LL) := ⟨_, rfl⟩
  rw [hLL.out]
  obtain ⟨V, hV⟩ : ∃ V, V = w.alloc (.cells #[.int .i64 6, .int .i64 (cl : Int), .int .i64 (rq : Int), .string key, .string key2, .string val, .string old, .int .i64 n] 27) := ⟨_, rfl⟩
  have X : Hid (CBox V w.heap.size 6 (cl : Int) (rq : Int) key key2 val old n) := by rw [hV]; exact cbox_new w 27 _ _ _ _ _ _ _ _
  have BV : Hid (Below w.heap.size w V) := by rw [hV]; exact (Below.refl _ _).alloc (Nat.le_refl _) _
  have hVs : w.heap.size ≤ V.heap.size := BV.out.size
  have HK : Hid (Knd V) := hK.below BV.out (Nat.le_refl _)
  have HZ := hide hz
  obtain ⟨x0, x1, x2, x3, x4, x5, x6, x7⟩ := X.out
  clear hK hz
  go_enter Tryz.func169, Tryz.ntmps169
  go_wp2_with fail
  rw [← hV]
  clear hV
  refine (check_any v ⟨6, (cl : Int), (rq : Int), key, key2, val, old, n⟩ _ HK.out hk hk2).mono ?_
  rintro e w1 ⟨rfl, hb1⟩
  rw [HZ.out]
  have B1 : Hid (Below V.heap.size V w1) := hb1
  have s1 : V.heap.size ≤ w1.heap.size := hb1.size
  clear hb1 x0 x1 x2 x3 x4 x5 x6 x7
  obtain ⟨x0, x1, x2, x3, x4, x5, x6, x7⟩ := X.out.below B1.out (Nat.le_refl _)
  have hlt : w.heap.size < w1.heap.size := cell_lt x0
  have O1 : Hid ((w1.alloc (.cells #[.int .u8 6] 5)).ownsRow V.heap.size 5 1 (.slice (some ⟨w1.heap.size, 0, none⟩) 1 1) [(6 : Int)].length ([(6 : Int)].map (Value.int .u8))) := own_one w1 _ s1 6
  have B1' : Hid (Below V.heap.size V (w1.alloc (.cells #[.int .u8 6] 5))) := B1.out.alloc s1 _
  go_wp2_with fail
  obtain ⟨wz, hwz⟩ : ∃ wz, wz = w1.alloc (.cells #[.int .u8 6] 5) := ⟨_, rfl⟩
  rw [← hwz] at O1 B1' ⊢
  clear hwz x0 x1 x2 x3 x4 x5 x6 x7
  have sz : V.heap.size ≤ wz.heap.size := B1'.out.size
  refine (putUint_any cl _ (by omega)).mono ?_
  rintro e w2a ⟨q2, rfl, o2, hb2⟩
  have Oa2 := hide (own_below O1.out hb2 (Nat.le_refl _))
  have Ba2 : Hid (Below V.heap.size V w2a) := B1'.out.trans (hb2.mono sz)
  have sa2 : V.heap.size ≤ w2a.heap.size := Ba2.out.size
  have P2 := hide o2
  have le2 : Hid (0 < (enc cl).length) := by show 0 < (enc cl).length; omega
  obtain ⟨L2, hL2⟩ : ∃ L, Hid ([(6 : Int)] ++ enc cl = L) := ⟨_, rfl⟩
  have ln2 : Hid (L2.length = 1 + (enc cl).length) := by rw [← hL2.out]; exact (List.length_append).trans (by rw [List.length_singleton])
  have ll2 : Hid ([(6 : Int)].length + (enc cl).length ≤ 1000000) := by show [(6 : Int)].length + (enc cl).length ≤ 1000000; simp only [List.length_singleton]; omega
  clear hb2 o2 O1 B1' sz
  go_wp2_with (first
    | (at_builtin; refine wpList_join rfl _ _ rfl V.heap.size _ _ _ [(6 : Int)] (enc cl) L2 hL2 rfl rfl Oa2.out P2.out le2.out ll2.out sa2 ?_))
  intro u2 w2 o2 g2
  have O2 := hide o2
  have B2 : Hid (Below V.heap.size V w2) := Ba2.out.grown g2 sa2 (fun j hj => (World.ownsRow.lt Oa2.out j hj).1)
  have s2 : V.heap.size ≤ w2.heap.size := B2.out.size
  clear o2 g2 Oa2 Ba2 P2 sa2
  obtain ⟨x0, x1, x2, x3, x4, x5, x6, x7⟩ := X.out.below B2.out (Nat.le_refl _)
  go_wp2_with fail
  refine (putUint_any rq _ (by omega)).mono ?_
  rintro e w3a ⟨q3, rfl, o3, hb3⟩
  have Oa3 := hide (own_below O2.out hb3 (Nat.le_refl _))
  have Ba3 : Hid (Below V.heap.size V w3a) := B2.out.trans (hb3.mono s2)
  have sa3 : V.heap.size ≤ w3a.heap.size := Ba3.out.size
  have P3 : Hid (w3a.ownsRow _ 5 1 q3 (enc rq).length ((enc rq).map (Value.int .u8))) := o3
  have le3 : Hid (0 < (enc rq).length) := by show 0 < (enc rq).length; omega
  obtain ⟨L3, hL3⟩ : ∃ L, Hid (L2 ++ (enc rq) = L) := ⟨_, rfl⟩
  have ln3 : Hid (L3.length = L2.length + (enc rq).length) := by rw [← hL3.out]; exact List.length_append
  have ll3 : Hid (L2.length + (enc rq).length ≤ 1000000) := by show L2.length + (enc rq).length ≤ 1000000; have z2 := ln2.out; omega
  clear hb3 o3 O2 B2 x0 x1 x2 x3 x4 x5 x6 x7
  go_wp2_with (first
    | (at_builtin; refine wpList_join rfl _ _ rfl V.heap.size _ _ _ L2 (enc rq) L3 hL3 rfl rfl Oa3.out P3.out le3.out ll3.out sa3 ?_))
  intro u3 w3 o3 g3
  have O3 := hide o3
  have B3 : Hid (Below V.heap.size V w3) := Ba3.out.grown g3 sa3 (fun j hj => (World.ownsRow.lt Oa3.out j hj).1)
  have s3 : V.heap.size ≤ w3.heap.size := B3.out.size
  clear o3 g3 Oa3 Ba3 P3 sa3
  obtain ⟨x0, x1, x2, x3, x4, x5, x6, x7⟩ := X.out.below B3.out (Nat.le_refl _)
  go_wp2_with fail
  refine (putText_any key _ hk).mono ?_
  rintro e w4a ⟨q4, rfl, o4, hb4⟩
  have Oa4 := hide (own_below O3.out hb4 (Nat.le_refl _))
  have Ba4 : Hid (Below V.heap.size V w4a) := B3.out.trans (hb4.mono s3)
  have sa4 : V.heap.size ≤ w4a.heap.size := Ba4.out.size
  have P4 : Hid (w4a.ownsRow _ 5 1 q4 (ptx key).length ((ptx key).map (Value.int .u8))) := o4
  have le4 : Hid (0 < (ptx key).length) := by show 0 < (ptx key).length; omega
  obtain ⟨L4, hL4⟩ : ∃ L, Hid (L3 ++ (ptx key) = L) := ⟨_, rfl⟩
  have ln4 : Hid (L4.length = L3.length + (ptx key).length) := by rw [← hL4.out]; exact List.length_append
  have ll4 : Hid (L3.length + (ptx key).length ≤ 1000000) := by show L3.length + (ptx key).length ≤ 1000000; have z2 := ln2.out; have z3 := ln3.out; omega
  clear hb4 o4 O3 B3 x0 x1 x2 x3 x4 x5 x6 x7
  go_wp2_with (first
    | (at_builtin; refine wpList_join rfl _ _ rfl V.heap.size _ _ _ L3 (ptx key) L4 hL4 rfl rfl Oa4.out P4.out le4.out ll4.out sa4 ?_))
  intro u4 w4 o4 g4
  have O4 := hide o4
  have B4 : Hid (Below V.heap.size V w4) := Ba4.out.grown g4 sa4 (fun j hj => (World.ownsRow.lt Oa4.out j hj).1)
  have s4 : V.heap.size ≤ w4.heap.size := B4.out.size
  clear o4 g4 Oa4 Ba4 P4 sa4
  obtain ⟨x0, x1, x2, x3, x4, x5, x6, x7⟩ := X.out.below B4.out (Nat.le_refl _)
  go_wp2_with fail
  refine (sharedStart_any key key2 _ hk hk2).mono ?_
  rintro e w4' ⟨rfl, q4, hq4⟩
  rw [hsh.out]
  have O4' := hide (show w4'.ownsRow _ _ _ _ _ _ by rw [hq4]; exact O4.out)
  have B4' : Hid (Below V.heap.size V w4') := by rw [hq4]; exact ⟨B4.out.os, B4.out.tape, B4.out.output, B4.out.size, B4.out.block⟩
  clear hq4 B4 O4 s4 x0 x1 x2 x3 x4 x5 x6 x7
  have s4 : V.heap.size ≤ w4'.heap.size := B4'.out.size
  obtain ⟨x0, x1, x2, x3, x4, x5, x6, x7⟩ := X.out.below B4'.out (Nat.le_refl _)
  go_wp2_with fail
  refine (putUint_any sh _ (by omega)).mono ?_
  rintro e w5a ⟨q5, rfl, o5, hb5⟩
  have Oa5 := hide (own_below O4'.out hb5 (Nat.le_refl _))
  have Ba5 : Hid (Below V.heap.size V w5a) := B4'.out.trans (hb5.mono s4)
  have sa5 : V.heap.size ≤ w5a.heap.size := Ba5.out.size
  have P5 : Hid (w5a.ownsRow _ 5 1 q5 (enc sh).length ((enc sh).map (Value.int .u8))) := o5
  have le5 : Hid (0 < (enc sh).length) := by show 0 < (enc sh).length; omega
  obtain ⟨L5, hL5⟩ : ∃ L, Hid (L4 ++ (enc sh) = L) := ⟨_, rfl⟩
  have ln5 : Hid (L5.length = L4.length + (enc sh).length) := by rw [← hL5.out]; exact List.length_append
  have ll5 : Hid (L4.length + (enc sh).length ≤ 1000000) := by show L4.length + (enc sh).length ≤ 1000000; have z2 := ln2.out; have z3 := ln3.out; have z4 := ln4.out; omega
  clear hb5 o5 O4' B4' x0 x1 x2 x3 x4 x5 x6 x7
  go_wp2_with (first
    | (at_builtin; refine wpList_join rfl _ _ rfl V.heap.size _ _ _ L4 (enc sh) L5 hL5 rfl rfl Oa5.out P5.out le5.out ll5.out sa5 ?_))
  intro u5 w5 o5 g5
  have O5 := hide o5
  have B5 : Hid (Below V.heap.size V w5) := Ba5.out.grown g5 sa5 (fun j hj => (World.ownsRow.lt Oa5.out j hj).1)
  have s5 : V.heap.size ≤ w5.heap.size := B5.out.size
  clear o5 g5 Oa5 Ba5 P5 sa5
  obtain ⟨x0, x1, x2, x3, x4, x5, x6, x7⟩ := X.out.below B5.out (Nat.le_refl _)
  go_wp2_with fail
  refine (putText_any rs _ (by omega)).mono ?_
  rintro e w6a ⟨q6, rfl, o6, hb6⟩
  have Oa6 := hide (own_below O5.out hb6 (Nat.le_refl _))
  have Ba6 : Hid (Below V.heap.size V w6a) := B5.out.trans (hb6.mono s5)
  have sa6 : V.heap.size ≤ w6a.heap.size := Ba6.out.size
  have P6 : Hid (w6a.ownsRow _ 5 1 q6 (ptx rs).length ((ptx rs).map (Value.int .u8))) := o6
  have le6 : Hid (0 < (ptx rs).length) := by show 0 < (ptx rs).length; omega
  obtain ⟨L6, hL6⟩ : ∃ L, Hid (L5 ++ (ptx rs) = L) := ⟨_, rfl⟩
  have ln6 : Hid (L6.length = L5.length + (ptx rs).length) := by rw [← hL6.out]; exact List.length_append
  have ll6 : Hid (L5.length + (ptx rs).length ≤ 1000000) := by show L5.length + (ptx rs).length ≤ 1000000; have z2 := ln2.out; have z3 := ln3.out; have z4 := ln4.out; have z5 := ln5.out; omega
  clear hb6 o6 O5 B5 x0 x1 x2 x3 x4 x5 x6 x7
  go_wp2_with (first
    | (at_builtin; refine wpList_join rfl _ _ rfl V.heap.size _ _ _ L5 (ptx rs) L6 hL6 rfl rfl Oa6.out P6.out le6.out ll6.out sa6 ?_))
  intro u6 w6 o6 g6
  have O6 := hide o6
  have B6 : Hid (Below V.heap.size V w6) := Ba6.out.grown g6 sa6 (fun j hj => (World.ownsRow.lt Oa6.out j hj).1)
  have s6 : V.heap.size ≤ w6.heap.size := B6.out.size
  clear o6 g6 Oa6 Ba6 P6 sa6
  obtain ⟨x0, x1, x2, x3, x4, x5, x6, x7⟩ := X.out.below B6.out (Nat.le_refl _)
  go_wp2
  go_ret2
  exact ⟨_, rfl, by rw [← hLL.out, HE.out, hL2.out, hL3.out, hL4.out, hL5.out, hL6.out]; exact own_more O6.out hVs, BV.out.trans (B6.out.mono hVs)⟩

set_option maxHeartbeats 4000000 in
set_option maxRecDepth 100000 in
theorem enc_k7 (v : Int) (cl rq : Nat) (key key2 val old : ByteArray) (n : Int) (w : World) (hK : Knd w) (hk : key.size ≤ 140737488351232) (hk2 : key2.size ≤ 140737488351232) (hz : chk v ⟨7, (cl : Int), (rq : Int), key, key2, val, old, n⟩ = 0) :
    Calls Tryz.prog 169 #[.int .i64 v, .agg #[.int .i64 7, .int .i64 (cl : Int), .int .i64 (rq : Int), .string key, .string key2, .string val, .string old, .int .i64 n]] w fun e w' => ∃ u, e = .returned (.tuple #[u, .int .i64 0]) ∧ w'.ownsRow w.heap.size 5 1 u (encC ⟨7, (cl : Int), (rq : Int), key, key2, val, old, n⟩).length ((encC ⟨7, (cl : Int), (rq : Int), key, key2, val, old, n⟩).map (Value.int .u8)) ∧ Below w.heap.size w w' := by
  have HS := hide (sound_of hz)
  obtain ⟨_, c1⟩ := HS.out.client (by simp)
  obtain ⟨_, r1⟩ := HS.out.req (by simp)
  obtain ⟨ky0, ky1⟩ := HS.out.key (by simp)
  simp only at c1 r1 ky0 ky1
  have lc := enc_le cl (by omega)
  have lr := enc_le rq (by omega)
  have lk := enc_le key.size (by omega)
  have lpk : (ptx key).length = (enc key.size).length + key.size := by unfold ptx; rw [List.length_append, tx_len]
  obtain ⟨j0, j1, j2⟩ := HS.out.key2 (by simp only; omega)
  simp only at j0 j1 j2
  have sle := shared_le key key2
  obtain ⟨sh, hsh⟩ : ∃ sh, Hid (shared key key2 = sh) := ⟨_, rfl⟩
  rw [hsh.out] at sle
  have ls := enc_le sh (by omega)
  have hst := str_from key2 sh (by omega)
  obtain ⟨rs, hrs⟩ : ∃ rs, Hid (key2.extract sh key2.size = rs) := ⟨_, rfl⟩
  have lrs : rs.size = key2.size - sh := by rw [← hrs.out, ByteArray.size_extract]; omega
  rw [hrs.out] at hst
  have lq := enc_le rs.size (by omega)
  have lpr : (ptx rs).length = (enc rs.size).length + rs.size := by unfold ptx; rw [List.length_append, tx_len]
  have HE : Hid (encC ⟨7, (cl : Int), (rq : Int), key, key2, val, old, n⟩ = ([(7 : Int)] ++ enc cl ++ enc rq ++ ptx key ++ enc sh ++ ptx rs)) := by simp [Hid, encC, restC, hsh.out, hrs.out]
  obtain ⟨LL, hLL⟩ : ∃ LL, Hid (encC ⟨7, (cl : Int), (rq : Int), key, key2, val, old, n⟩ = LL) := ⟨_, rfl⟩
  rw [hLL.out]
  obtain ⟨V, hV⟩ : ∃ V, V = w.alloc (.cells #[.int .i64 7, .int .i64 (cl : Int), .int .i64 (rq : Int), .string key, .string key2, .string val, .string old, .int .i64 n] 27) := ⟨_, rfl⟩
  have X : Hid (CBox V w.heap.size 7 (cl : Int) (rq : Int) key key2 val old n) := by rw [hV]; exact cbox_new w 27 _ _ _ _ _ _ _ _
  have BV : Hid (Below w.heap.size w V) := by rw [hV]; exact (Below.refl _ _).alloc (Nat.le_refl _) _
  have hVs : w.heap.size ≤ V.heap.size := BV.out.size
  have HK : Hid (Knd V) := hK.below BV.out (Nat.le_refl _)
  have HZ := hide hz
  obtain ⟨x0, x1, x2, x3, x4, x5, x6, x7⟩ := X.out
  clear hK hz
  go_enter Tryz.func169, Tryz.ntmps169
  go_wp2_with fail
  rw [← hV]
  clear hV
  refine (check_any v ⟨7, (cl : Int), (rq : Int), key, key2, val, old, n⟩ _ HK.out hk hk2).mono ?_
  rintro e w1 ⟨rfl, hb1⟩
  rw [HZ.out]
  have B1 : Hid (Below V.heap.size V w1) := hb1
  have s1 : V.heap.size ≤ w1.heap.size := hb1.size
  clear hb1 x0 x1 x2 x3 x4 x5 x6 x7
  obtain ⟨x0, x1, x2, x3, x4, x5, x6, x7⟩ := X.out.below B1.out (Nat.le_refl _)
  have hlt : w.heap.size < w1.heap.size := cell_lt x0
  have O1 : Hid ((w1.alloc (.cells #[.int .u8 7] 5)).ownsRow V.heap.size 5 1 (.slice (some ⟨w1.heap.size, 0, none⟩) 1 1) [(7 : Int)].length ([(7 : Int)].map (Value.int .u8))) := own_one w1 _ s1 7
  have B1' : Hid (Below V.heap.size V (w1.alloc (.cells #[.int .u8 7] 5))) := B1.out.alloc s1 _
  go_wp2_with fail
  obtain ⟨wz, hwz⟩ : ∃ wz, wz = w1.alloc (.cells #[.int .u8 7] 5) := ⟨_, rfl⟩
  rw [← hwz] at O1 B1' ⊢
  clear hwz x0 x1 x2 x3 x4 x5 x6 x7
  have sz : V.heap.size ≤ wz.heap.size := B1'.out.size
  refine (putUint_any cl _ (by omega)).mono ?_
  rintro e w2a ⟨q2, rfl, o2, hb2⟩
  have Oa2 := hide (own_below O1.out hb2 (Nat.le_refl _))
  have Ba2 : Hid (Below V.heap.size V w2a) := B1'.out.trans (hb2.mono sz)
  have sa2 : V.heap.size ≤ w2a.heap.size := Ba2.out.size
  have P2 := hide o2
  have le2 : Hid (0 < (enc cl).length) := by show 0 < (enc cl).length; omega
  obtain ⟨L2, hL2⟩ : ∃ L, Hid ([(7 : Int)] ++ enc cl = L) := ⟨_, rfl⟩
  have ln2 : Hid (L2.length = 1 + (enc cl).length) := by rw [← hL2.out]; exact (List.length_append).trans (by rw [List.length_singleton])
  have ll2 : Hid ([(7 : Int)].length + (enc cl).length ≤ 1000000) := by show [(7 : Int)].length + (enc cl).length ≤ 1000000; simp only [List.length_singleton]; omega
  clear hb2 o2 O1 B1' sz
  go_wp2_with (first
    | (at_builtin; refine wpList_join rfl _ _ rfl V.heap.size _ _ _ [(7 : Int)] (enc cl) L2 hL2 rfl rfl Oa2.out P2.out le2.out ll2.out sa2 ?_))
  intro u2 w2 o2 g2
  have O2 := hide o2
  have B2 : Hid (Below V.heap.size V w2) := Ba2.out.grown g2 sa2 (fun j hj => (World.ownsRow.lt Oa2.out j hj).1)
  have s2 : V.heap.size ≤ w2.heap.size := B2.out.size
  clear o2 g2 Oa2 Ba2 P2 sa2
  obtain ⟨x0, x1, x2, x3, x4, x5, x6, x7⟩ := X.out.below B2.out (Nat.le_refl _)
  go_wp2_with fail
  refine (putUint_any rq _ (by omega)).mono ?_
  rintro e w3a ⟨q3, rfl, o3, hb3⟩
  have Oa3 := hide (own_below O2.out hb3 (Nat.le_refl _))
  have Ba3 : Hid (Below V.heap.size V w3a) := B2.out.trans (hb3.mono s2)
  have sa3 : V.heap.size ≤ w3a.heap.size := Ba3.out.size
  have P3 : Hid (w3a.ownsRow _ 5 1 q3 (enc rq).length ((enc rq).map (Value.int .u8))) := o3
  have le3 : Hid (0 < (enc rq).length) := by show 0 < (enc rq).length; omega
  obtain ⟨L3, hL3⟩ : ∃ L, Hid (L2 ++ (enc rq) = L) := ⟨_, rfl⟩
  have ln3 : Hid (L3.length = L2.length + (enc rq).length) := by rw [← hL3.out]; exact List.length_append
  have ll3 : Hid (L2.length + (enc rq).length ≤ 1000000) := by show L2.length + (enc rq).length ≤ 1000000; have z2 := ln2.out; omega
  clear hb3 o3 O2 B2 x0 x1 x2 x3 x4 x5 x6 x7
  go_wp2_with (first
    | (at_builtin; refine wpList_join rfl _ _ rfl V.heap.size _ _ _ L2 (enc rq) L3 hL3 rfl rfl Oa3.out P3.out le3.out ll3.out sa3 ?_))
  intro u3 w3 o3 g3
  have O3 := hide o3
  have B3 : Hid (Below V.heap.size V w3) := Ba3.out.grown g3 sa3 (fun j hj => (World.ownsRow.lt Oa3.out j hj).1)
  have s3 : V.heap.size ≤ w3.heap.size := B3.out.size
  clear o3 g3 Oa3 Ba3 P3 sa3
  obtain ⟨x0, x1, x2, x3, x4, x5, x6, x7⟩ := X.out.below B3.out (Nat.le_refl _)
  go_wp2_with fail
  refine (putText_any key _ hk).mono ?_
  rintro e w4a ⟨q4, rfl, o4, hb4⟩
  have Oa4 := hide (own_below O3.out hb4 (Nat.le_refl _))
  have Ba4 : Hid (Below V.heap.size V w4a) := B3.out.trans (hb4.mono s3)
  have sa4 : V.heap.size ≤ w4a.heap.size := Ba4.out.size
  have P4 : Hid (w4a.ownsRow _ 5 1 q4 (ptx key).length ((ptx key).map (Value.int .u8))) := o4
  have le4 : Hid (0 < (ptx key).length) := by show 0 < (ptx key).length; omega
  obtain ⟨L4, hL4⟩ : ∃ L, Hid (L3 ++ (ptx key) = L) := ⟨_, rfl⟩
  have ln4 : Hid (L4.length = L3.length + (ptx key).length) := by rw [← hL4.out]; exact List.length_append
  have ll4 : Hid (L3.length + (ptx key).length ≤ 1000000) := by show L3.length + (ptx key).length ≤ 1000000; have z2 := ln2.out; have z3 := ln3.out; omega
  clear hb4 o4 O3 B3 x0 x1 x2 x3 x4 x5 x6 x7
  go_wp2_with (first
    | (at_builtin; refine wpList_join rfl _ _ rfl V.heap.size _ _ _ L3 (ptx key) L4 hL4 rfl rfl Oa4.out P4.out le4.out ll4.out sa4 ?_))
  intro u4 w4 o4 g4
  have O4 := hide o4
  have B4 : Hid (Below V.heap.size V w4) := Ba4.out.grown g4 sa4 (fun j hj => (World.ownsRow.lt Oa4.out j hj).1)
  have s4 : V.heap.size ≤ w4.heap.size := B4.out.size
  clear o4 g4 Oa4 Ba4 P4 sa4
  obtain ⟨x0, x1, x2, x3, x4, x5, x6, x7⟩ := X.out.below B4.out (Nat.le_refl _)
  go_wp2_with fail
  refine (sharedStart_any key key2 _ hk hk2).mono ?_
  rintro e w4' ⟨rfl, q4, hq4⟩
  rw [hsh.out]
  have O4' := hide (show w4'.ownsRow _ _ _ _ _ _ by rw [hq4]; exact O4.out)
  have B4' : Hid (Below V.heap.size V w4') := by rw [hq4]; exact ⟨B4.out.os, B4.out.tape, B4.out.output, B4.out.size, B4.out.block⟩
  clear hq4 B4 O4 s4 x0 x1 x2 x3 x4 x5 x6 x7
  have s4 : V.heap.size ≤ w4'.heap.size := B4'.out.size
  obtain ⟨x0, x1, x2, x3, x4, x5, x6, x7⟩ := X.out.below B4'.out (Nat.le_refl _)
  go_wp2_with fail
  refine (putUint_any sh _ (by omega)).mono ?_
  rintro e w5a ⟨q5, rfl, o5, hb5⟩
  have Oa5 := hide (own_below O4'.out hb5 (Nat.le_refl _))
  have Ba5 : Hid (Below V.heap.size V w5a) := B4'.out.trans (hb5.mono s4)
  have sa5 : V.heap.size ≤ w5a.heap.size := Ba5.out.size
  have P5 : Hid (w5a.ownsRow _ 5 1 q5 (enc sh).length ((enc sh).map (Value.int .u8))) := o5
  have le5 : Hid (0 < (enc sh).length) := by show 0 < (enc sh).length; omega
  obtain ⟨L5, hL5⟩ : ∃ L, Hid (L4 ++ (enc sh) = L) := ⟨_, rfl⟩
  have ln5 : Hid (L5.length = L4.length + (enc sh).length) := by rw [← hL5.out]; exact List.length_append
  have ll5 : Hid (L4.length + (enc sh).length ≤ 1000000) := by show L4.length + (enc sh).length ≤ 1000000; have z2 := ln2.out; have z3 := ln3.out; have z4 := ln4.out; omega
  clear hb5 o5 O4' B4' x0 x1 x2 x3 x4 x5 x6 x7
  go_wp2_with (first
    | (at_builtin; refine wpList_join rfl _ _ rfl V.heap.size _ _ _ L4 (enc sh) L5 hL5 rfl rfl Oa5.out P5.out le5.out ll5.out sa5 ?_))
  intro u5 w5 o5 g5
  have O5 := hide o5
  have B5 : Hid (Below V.heap.size V w5) := Ba5.out.grown g5 sa5 (fun j hj => (World.ownsRow.lt Oa5.out j hj).1)
  have s5 : V.heap.size ≤ w5.heap.size := B5.out.size
  clear o5 g5 Oa5 Ba5 P5 sa5
  obtain ⟨x0, x1, x2, x3, x4, x5, x6, x7⟩ := X.out.below B5.out (Nat.le_refl _)
  go_wp2_with fail
  refine (putText_any rs _ (by omega)).mono ?_
  rintro e w6a ⟨q6, rfl, o6, hb6⟩
  have Oa6 := hide (own_below O5.out hb6 (Nat.le_refl _))
  have Ba6 : Hid (Below V.heap.size V w6a) := B5.out.trans (hb6.mono s5)
  have sa6 : V.heap.size ≤ w6a.heap.size := Ba6.out.size
  have P6 : Hid (w6a.ownsRow _ 5 1 q6 (ptx rs).length ((ptx rs).map (Value.int .u8))) := o6
  have le6 : Hid (0 < (ptx rs).length) := by show 0 < (ptx rs).length; omega
  obtain ⟨L6, hL6⟩ : ∃ L, Hid (L5 ++ (ptx rs) = L) := ⟨_, rfl⟩
  have ln6 : Hid (L6.length = L5.length + (ptx rs).length) := by rw [← hL6.out]; exact List.length_append
  have ll6 : Hid (L5.length + (ptx rs).length ≤ 1000000) := by show L5.length + (ptx rs).length ≤ 1000000; have z2 := ln2.out; have z3 := ln3.out; have z4 := ln4.out; have z5 := ln5.out; omega
  clear hb6 o6 O5 B5 x0 x1 x2 x3 x4 x5 x6 x7
  go_wp2_with (first
    | (at_builtin; refine wpList_join rfl _ _ rfl V.heap.size _ _ _ L5 (ptx rs) L6 hL6 rfl rfl Oa6.out P6.out le6.out ll6.out sa6 ?_))
  intro u6 w6 o6 g6
  have O6 := hide o6
  have B6 : Hid (Below V.heap.size V w6) := Ba6.out.grown g6 sa6 (fun j hj => (World.ownsRow.lt Oa6.out j hj).1)
  have s6 : V.heap.size ≤ w6.heap.size := B6.out.size
  clear o6 g6 Oa6 Ba6 P6 sa6
  obtain ⟨x0, x1, x2, x3, x4, x5, x6, x7⟩ := X.out.below B6.out (Nat.le_refl _)
  go_wp2
  go_ret2
  exact ⟨_, rfl, by rw [← hLL.out, HE.out, hL2.out, hL3.out, hL4.out, hL5.out, hL6.out]; exact own_more O6.out hVs, BV.out.trans (B6.out.mono hVs)⟩

set_option maxHeartbeats 4000000 in
set_option maxRecDepth 100000 in
theorem enc_k8 (v : Int) (cl rq : Nat) (key key2 val old : ByteArray) (n : Int) (w : World) (hK : Knd w) (hk : key.size ≤ 140737488351232) (hk2 : key2.size ≤ 140737488351232) (hz : chk v ⟨8, (cl : Int), (rq : Int), key, key2, val, old, n⟩ = 0) :
    Calls Tryz.prog 169 #[.int .i64 v, .agg #[.int .i64 8, .int .i64 (cl : Int), .int .i64 (rq : Int), .string key, .string key2, .string val, .string old, .int .i64 n]] w fun e w' => ∃ u, e = .returned (.tuple #[u, .int .i64 0]) ∧ w'.ownsRow w.heap.size 5 1 u (encC ⟨8, (cl : Int), (rq : Int), key, key2, val, old, n⟩).length ((encC ⟨8, (cl : Int), (rq : Int), key, key2, val, old, n⟩).map (Value.int .u8)) ∧ Below w.heap.size w w' := by
  have HS := hide (sound_of hz)
  obtain ⟨_, c1⟩ := HS.out.client (by simp)
  obtain ⟨_, r1⟩ := HS.out.req (by simp)
  obtain ⟨ky0, ky1⟩ := HS.out.key (by simp)
  simp only at c1 r1 ky0 ky1
  have lc := enc_le cl (by omega)
  have lr := enc_le rq (by omega)
  have lk := enc_le key.size (by omega)
  have lpk : (ptx key).length = (enc key.size).length + key.size := by unfold ptx; rw [List.length_append, tx_len]
  obtain ⟨j0, j1, j2⟩ := HS.out.key2 (by simp only; omega)
  simp only at j0 j1 j2
  have sle := shared_le key key2
  obtain ⟨sh, hsh⟩ : ∃ sh, Hid (shared key key2 = sh) := ⟨_, rfl⟩
  rw [hsh.out] at sle
  have ls := enc_le sh (by omega)
  have hst := str_from key2 sh (by omega)
  obtain ⟨rs, hrs⟩ : ∃ rs, Hid (key2.extract sh key2.size = rs) := ⟨_, rfl⟩
  have lrs : rs.size = key2.size - sh := by rw [← hrs.out, ByteArray.size_extract]; omega
  rw [hrs.out] at hst
  have lq := enc_le rs.size (by omega)
  have lpr : (ptx rs).length = (enc rs.size).length + rs.size := by unfold ptx; rw [List.length_append, tx_len]
  have HE : Hid (encC ⟨8, (cl : Int), (rq : Int), key, key2, val, old, n⟩ = ([(8 : Int)] ++ enc cl ++ enc rq ++ ptx key ++ enc sh ++ ptx rs)) := by simp [Hid, encC, restC, hsh.out, hrs.out]
  obtain ⟨LL, hLL⟩ : ∃ LL, Hid (encC ⟨8, (cl : Int), (rq : Int), key, key2, val, old, n⟩ = LL) := ⟨_, rfl⟩
  rw [hLL.out]
  obtain ⟨V, hV⟩ : ∃ V, V = w.alloc (.cells #[.int .i64 8, .int .i64 (cl : Int), .int .i64 (rq : Int), .string key, .string key2, .string val, .string old, .int .i64 n] 27) := ⟨_, rfl⟩
  have X : Hid (CBox V w.heap.size 8 (cl : Int) (rq : Int) key key2 val old n) := by rw [hV]; exact cbox_new w 27 _ _ _ _ _ _ _ _
  have BV : Hid (Below w.heap.size w V) := by rw [hV]; exact (Below.refl _ _).alloc (Nat.le_refl _) _
  have hVs : w.heap.size ≤ V.heap.size := BV.out.size
  have HK : Hid (Knd V) := hK.below BV.out (Nat.le_refl _)
  have HZ := hide hz
  obtain ⟨x0, x1, x2, x3, x4, x5, x6, x7⟩ := X.out
  clear hK hz
  go_enter Tryz.func169, Tryz.ntmps169
  go_wp2_with fail
  rw [← hV]
  clear hV
  refine (check_any v ⟨8, (cl : Int), (rq : Int), key, key2, val, old, n⟩ _ HK.out hk hk2).mono ?_
  rintro e w1 ⟨rfl, hb1⟩
  rw [HZ.out]
  have B1 : Hid (Below V.heap.size V w1) := hb1
  have s1 : V.heap.size ≤ w1.heap.size := hb1.size
  clear hb1 x0 x1 x2 x3 x4 x5 x6 x7
  obtain ⟨x0, x1, x2, x3, x4, x5, x6, x7⟩ := X.out.below B1.out (Nat.le_refl _)
  have hlt : w.heap.size < w1.heap.size := cell_lt x0
  have O1 : Hid ((w1.alloc (.cells #[.int .u8 8] 5)).ownsRow V.heap.size 5 1 (.slice (some ⟨w1.heap.size, 0, none⟩) 1 1) [(8 : Int)].length ([(8 : Int)].map (Value.int .u8))) := own_one w1 _ s1 8
  have B1' : Hid (Below V.heap.size V (w1.alloc (.cells #[.int .u8 8] 5))) := B1.out.alloc s1 _
  go_wp2_with fail
  obtain ⟨wz, hwz⟩ : ∃ wz, wz = w1.alloc (.cells #[.int .u8 8] 5) := ⟨_, rfl⟩
  rw [← hwz] at O1 B1' ⊢
  clear hwz x0 x1 x2 x3 x4 x5 x6 x7
  have sz : V.heap.size ≤ wz.heap.size := B1'.out.size
  refine (putUint_any cl _ (by omega)).mono ?_
  rintro e w2a ⟨q2, rfl, o2, hb2⟩
  have Oa2 := hide (own_below O1.out hb2 (Nat.le_refl _))
  have Ba2 : Hid (Below V.heap.size V w2a) := B1'.out.trans (hb2.mono sz)
  have sa2 : V.heap.size ≤ w2a.heap.size := Ba2.out.size
  have P2 := hide o2
  have le2 : Hid (0 < (enc cl).length) := by show 0 < (enc cl).length; omega
  obtain ⟨L2, hL2⟩ : ∃ L, Hid ([(8 : Int)] ++ enc cl = L) := ⟨_, rfl⟩
  have ln2 : Hid (L2.length = 1 + (enc cl).length) := by rw [← hL2.out]; exact (List.length_append).trans (by rw [List.length_singleton])
  have ll2 : Hid ([(8 : Int)].length + (enc cl).length ≤ 1000000) := by show [(8 : Int)].length + (enc cl).length ≤ 1000000; simp only [List.length_singleton]; omega
  clear hb2 o2 O1 B1' sz
  go_wp2_with (first
    | (at_builtin; refine wpList_join rfl _ _ rfl V.heap.size _ _ _ [(8 : Int)] (enc cl) L2 hL2 rfl rfl Oa2.out P2.out le2.out ll2.out sa2 ?_))
  intro u2 w2 o2 g2
  have O2 := hide o2
  have B2 : Hid (Below V.heap.size V w2) := Ba2.out.grown g2 sa2 (fun j hj => (World.ownsRow.lt Oa2.out j hj).1)
  have s2 : V.heap.size ≤ w2.heap.size := B2.out.size
  clear o2 g2 Oa2 Ba2 P2 sa2
  obtain ⟨x0, x1, x2, x3, x4, x5, x6, x7⟩ := X.out.below B2.out (Nat.le_refl _)
  go_wp2_with fail
  refine (putUint_any rq _ (by omega)).mono ?_
  rintro e w3a ⟨q3, rfl, o3, hb3⟩
  have Oa3 := hide (own_below O2.out hb3 (Nat.le_refl _))
  have Ba3 : Hid (Below V.heap.size V w3a) := B2.out.trans (hb3.mono s2)
  have sa3 : V.heap.size ≤ w3a.heap.size := Ba3.out.size
  have P3 : Hid (w3a.ownsRow _ 5 1 q3 (enc rq).length ((enc rq).map (Value.int .u8))) := o3
  have le3 : Hid (0 < (enc rq).length) := by show 0 < (enc rq).length; omega
  obtain ⟨L3, hL3⟩ : ∃ L, Hid (L2 ++ (enc rq) = L) := ⟨_, rfl⟩
  have ln3 : Hid (L3.length = L2.length + (enc rq).length) := by rw [← hL3.out]; exact List.length_append
  have ll3 : Hid (L2.length + (enc rq).length ≤ 1000000) := by show L2.length + (enc rq).length ≤ 1000000; have z2 := ln2.out; omega
  clear hb3 o3 O2 B2 x0 x1 x2 x3 x4 x5 x6 x7
  go_wp2_with (first
    | (at_builtin; refine wpList_join rfl _ _ rfl V.heap.size _ _ _ L2 (enc rq) L3 hL3 rfl rfl Oa3.out P3.out le3.out ll3.out sa3 ?_))
  intro u3 w3 o3 g3
  have O3 := hide o3
  have B3 : Hid (Below V.heap.size V w3) := Ba3.out.grown g3 sa3 (fun j hj => (World.ownsRow.lt Oa3.out j hj).1)
  have s3 : V.heap.size ≤ w3.heap.size := B3.out.size
  clear o3 g3 Oa3 Ba3 P3 sa3
  obtain ⟨x0, x1, x2, x3, x4, x5, x6, x7⟩ := X.out.below B3.out (Nat.le_refl _)
  go_wp2_with fail
  refine (putText_any key _ hk).mono ?_
  rintro e w4a ⟨q4, rfl, o4, hb4⟩
  have Oa4 := hide (own_below O3.out hb4 (Nat.le_refl _))
  have Ba4 : Hid (Below V.heap.size V w4a) := B3.out.trans (hb4.mono s3)
  have sa4 : V.heap.size ≤ w4a.heap.size := Ba4.out.size
  have P4 : Hid (w4a.ownsRow _ 5 1 q4 (ptx key).length ((ptx key).map (Value.int .u8))) := o4
  have le4 : Hid (0 < (ptx key).length) := by show 0 < (ptx key).length; omega
  obtain ⟨L4, hL4⟩ : ∃ L, Hid (L3 ++ (ptx key) = L) := ⟨_, rfl⟩
  have ln4 : Hid (L4.length = L3.length + (ptx key).length) := by rw [← hL4.out]; exact List.length_append
  have ll4 : Hid (L3.length + (ptx key).length ≤ 1000000) := by show L3.length + (ptx key).length ≤ 1000000; have z2 := ln2.out; have z3 := ln3.out; omega
  clear hb4 o4 O3 B3 x0 x1 x2 x3 x4 x5 x6 x7
  go_wp2_with (first
    | (at_builtin; refine wpList_join rfl _ _ rfl V.heap.size _ _ _ L3 (ptx key) L4 hL4 rfl rfl Oa4.out P4.out le4.out ll4.out sa4 ?_))
  intro u4 w4 o4 g4
  have O4 := hide o4
  have B4 : Hid (Below V.heap.size V w4) := Ba4.out.grown g4 sa4 (fun j hj => (World.ownsRow.lt Oa4.out j hj).1)
  have s4 : V.heap.size ≤ w4.heap.size := B4.out.size
  clear o4 g4 Oa4 Ba4 P4 sa4
  obtain ⟨x0, x1, x2, x3, x4, x5, x6, x7⟩ := X.out.below B4.out (Nat.le_refl _)
  go_wp2_with fail
  refine (sharedStart_any key key2 _ hk hk2).mono ?_
  rintro e w4' ⟨rfl, q4, hq4⟩
  rw [hsh.out]
  have O4' := hide (show w4'.ownsRow _ _ _ _ _ _ by rw [hq4]; exact O4.out)
  have B4' : Hid (Below V.heap.size V w4') := by rw [hq4]; exact ⟨B4.out.os, B4.out.tape, B4.out.output, B4.out.size, B4.out.block⟩
  clear hq4 B4 O4 s4 x0 x1 x2 x3 x4 x5 x6 x7
  have s4 : V.heap.size ≤ w4'.heap.size := B4'.out.size
  obtain ⟨x0, x1, x2, x3, x4, x5, x6, x7⟩ := X.out.below B4'.out (Nat.le_refl _)
  go_wp2_with fail
  refine (putUint_any sh _ (by omega)).mono ?_
  rintro e w5a ⟨q5, rfl, o5, hb5⟩
  have Oa5 := hide (own_below O4'.out hb5 (Nat.le_refl _))
  have Ba5 : Hid (Below V.heap.size V w5a) := B4'.out.trans (hb5.mono s4)
  have sa5 : V.heap.size ≤ w5a.heap.size := Ba5.out.size
  have P5 : Hid (w5a.ownsRow _ 5 1 q5 (enc sh).length ((enc sh).map (Value.int .u8))) := o5
  have le5 : Hid (0 < (enc sh).length) := by show 0 < (enc sh).length; omega
  obtain ⟨L5, hL5⟩ : ∃ L, Hid (L4 ++ (enc sh) = L) := ⟨_, rfl⟩
  have ln5 : Hid (L5.length = L4.length + (enc sh).length) := by rw [← hL5.out]; exact List.length_append
  have ll5 : Hid (L4.length + (enc sh).length ≤ 1000000) := by show L4.length + (enc sh).length ≤ 1000000; have z2 := ln2.out; have z3 := ln3.out; have z4 := ln4.out; omega
  clear hb5 o5 O4' B4' x0 x1 x2 x3 x4 x5 x6 x7
  go_wp2_with (first
    | (at_builtin; refine wpList_join rfl _ _ rfl V.heap.size _ _ _ L4 (enc sh) L5 hL5 rfl rfl Oa5.out P5.out le5.out ll5.out sa5 ?_))
  intro u5 w5 o5 g5
  have O5 := hide o5
  have B5 : Hid (Below V.heap.size V w5) := Ba5.out.grown g5 sa5 (fun j hj => (World.ownsRow.lt Oa5.out j hj).1)
  have s5 : V.heap.size ≤ w5.heap.size := B5.out.size
  clear o5 g5 Oa5 Ba5 P5 sa5
  obtain ⟨x0, x1, x2, x3, x4, x5, x6, x7⟩ := X.out.below B5.out (Nat.le_refl _)
  go_wp2_with fail
  refine (putText_any rs _ (by omega)).mono ?_
  rintro e w6a ⟨q6, rfl, o6, hb6⟩
  have Oa6 := hide (own_below O5.out hb6 (Nat.le_refl _))
  have Ba6 : Hid (Below V.heap.size V w6a) := B5.out.trans (hb6.mono s5)
  have sa6 : V.heap.size ≤ w6a.heap.size := Ba6.out.size
  have P6 : Hid (w6a.ownsRow _ 5 1 q6 (ptx rs).length ((ptx rs).map (Value.int .u8))) := o6
  have le6 : Hid (0 < (ptx rs).length) := by show 0 < (ptx rs).length; omega
  obtain ⟨L6, hL6⟩ : ∃ L, Hid (L5 ++ (ptx rs) = L) := ⟨_, rfl⟩
  have ln6 : Hid (L6.length = L5.length + (ptx rs).length) := by rw [← hL6.out]; exact List.length_append
  have ll6 : Hid (L5.length + (ptx rs).length ≤ 1000000) := by show L5.length + (ptx rs).length ≤ 1000000; have z2 := ln2.out; have z3 := ln3.out; have z4 := ln4.out; have z5 := ln5.out; omega
  clear hb6 o6 O5 B5 x0 x1 x2 x3 x4 x5 x6 x7
  go_wp2_with (first
    | (at_builtin; refine wpList_join rfl _ _ rfl V.heap.size _ _ _ L5 (ptx rs) L6 hL6 rfl rfl Oa6.out P6.out le6.out ll6.out sa6 ?_))
  intro u6 w6 o6 g6
  have O6 := hide o6
  have B6 : Hid (Below V.heap.size V w6) := Ba6.out.grown g6 sa6 (fun j hj => (World.ownsRow.lt Oa6.out j hj).1)
  have s6 : V.heap.size ≤ w6.heap.size := B6.out.size
  clear o6 g6 Oa6 Ba6 P6 sa6
  obtain ⟨x0, x1, x2, x3, x4, x5, x6, x7⟩ := X.out.below B6.out (Nat.le_refl _)
  go_wp2
  go_ret2
  exact ⟨_, rfl, by rw [← hLL.out, HE.out, hL2.out, hL3.out, hL4.out, hL5.out, hL6.out]; exact own_more O6.out hVs, BV.out.trans (B6.out.mono hVs)⟩

theorem encode_any (v : Int) (c : Cm) (w : World) (hK : Knd w) (hk : c.key.size ≤ 140737488351232) (hk2 : c.key2.size ≤ 140737488351232) (hn1 : -9223372036854775808 ≤ c.n) (hn2 : c.n ≤ 9223372036854775807) (hz : chk v c = 0) :
    Calls Tryz.prog 169 #[.int .i64 v, .agg #[.int .i64 c.kind, .int .i64 c.client, .int .i64 c.req, .string c.key, .string c.key2, .string c.val, .string c.old, .int .i64 c.n]] w fun e w' => ∃ u, e = .returned (.tuple #[u, .int .i64 0]) ∧ w'.ownsRow w.heap.size 5 1 u (encC c).length ((encC c).map (Value.int .u8)) ∧ Below w.heap.size w w' := by
  have HS := sound_of hz
  obtain ⟨kind, client, req, key, key2, val, old, n⟩ := c
  have h0 := HS.k0
  have h8 := HS.k8
  simp only at h0 h8 hk hk2 hn1 hn2
  by_cases hk0 : kind = 0
  · subst hk0
    exact enc_k0 v client req key key2 val old n w hK hk hk2 hz
  · obtain ⟨c0, _⟩ := HS.client hk0
    obtain ⟨r0, _⟩ := HS.req hk0
    simp only at c0 r0
    obtain ⟨cl, rfl⟩ := Int.eq_ofNat_of_zero_le c0
    obtain ⟨rq, rfl⟩ := Int.eq_ofNat_of_zero_le r0
    rcases (by omega : kind = 1 ∨ kind = 2 ∨ kind = 3 ∨ kind = 4 ∨ kind = 5 ∨ kind = 6 ∨ kind = 7 ∨ kind = 8) with rfl | rfl | rfl | rfl | rfl | rfl | rfl | rfl
    · exact enc_k1 v cl rq key key2 val old n w hK hk hk2 hz
    · exact enc_k2 v cl rq key key2 val old n w hK hk hk2 hz
    · exact enc_k3 v cl rq key key2 val old n w hK hk hk2 hz
    · exact enc_k4 v cl rq key key2 val old n w hK hk hk2 hn1 hn2 hz
    · exact enc_k5 v cl rq key key2 val old n w hK hk hk2 hz
    · exact enc_k6 v cl rq key key2 val old n w hK hk hk2 hz
    · exact enc_k7 v cl rq key key2 val old n w hK hk hk2 hz
    · exact enc_k8 v cl rq key key2 val old n w hK hk hk2 hz

end Go.Proofs.YtdokagebfeejbaaGreatDoor
