/- The contracts of attrBytes and loadBytes. -/
import Derived.Test.YtooejihnifphkaaGreatDoorMPut2
import Derived.Test.YtooejihnifphkaaGreatDoorDBack2
namespace Go.Proofs.YtooejihnifphkaaGreatDoor
open Go.RowKit Go.Wire1

/-- An attribute's bytes, a load's. -/
def attP (v : Int) (sq : Nat) (dl : List Int) : List Int := enc sq ++ packR v dl
def lodP (v : Int) (c : Cm) (sq : Nat) (dl : List Int) : List Int := encC c ++ attP v sq dl
set_option maxHeartbeats 2000000 in
set_option maxRecDepth 100000 in
theorem attr1_any (sq : Nat) (ua : Option Addr) (uk uc : Nat) (dl : List Int) (w : World) (hsq : sq < 9223372036854775808) (hI : SegI w ua uk dl) (hp0 : 0 < (packR 1 dl).length) (hp1 : (packR 1 dl).length ≤ 1000) :
    Calls Tryz.prog 149 #[.agg #[.int .i64 1, .func (.func 32) #[] #[], .func (.func 33) #[] #[], .func (.func 34) #[] #[], .func (.func 35) #[] #[], .func (.func 36) #[] #[], .func (.func 37) #[] #[]], .agg #[.int .i64 (sq : Int), .slice ua uk uc]] w fun r w' => Bts w (attP 1 sq dl) r w' := by
  obtain ⟨X, hX⟩ : ∃ X, X = (w.alloc (.cells #[.int .i64 1, .func (.func 32) #[] #[], .func (.func 33) #[] #[], .func (.func 34) #[] #[], .func (.func 35) #[] #[], .func (.func 36) #[] #[], .func (.func 37) #[] #[]] 64)).alloc (.cells #[.int .i64 (sq : Int), .slice ua uk uc] 83) := ⟨_, rfl⟩
  have Q0 := blk_new w 64 [.int .i64 1, .func (.func 32) #[] #[], .func (.func 33) #[] #[], .func (.func 34) #[] #[], .func (.func 35) #[] #[], .func (.func 36) #[] #[], .func (.func 37) #[] #[]]
  have QA0 := blk_new (w.alloc (.cells #[.int .i64 1, .func (.func 32) #[] #[], .func (.func 33) #[] #[], .func (.func 34) #[] #[], .func (.func 35) #[] #[], .func (.func 36) #[] #[], .func (.func 37) #[] #[]] 64)) 83 [.int .i64 (sq : Int), .slice ua uk uc]
  have QL : Hid (Blk X w.heap.size [.int .i64 1, .func (.func 32) #[] #[], .func (.func 33) #[] #[], .func (.func 34) #[] #[], .func (.func 35) #[] #[], .func (.func 36) #[] #[], .func (.func 37) #[] #[]]) := by rw [hX]; exact Q0.on ((Below.refl _ _).alloc (Nat.le_refl _) _)
  have QA : Hid (Blk X (w.heap.size + 1) [.int .i64 (sq : Int), .slice ua uk uc]) := by rw [hX]; rw [World.size_alloc] at QA0; exact QA0
  have BX : Hid (Below w.heap.size w X) := by rw [hX]; exact ((Below.refl _ w).alloc (Nat.le_refl _) _).alloc (by simp) _
  have HI : Hid (SegI X ua uk dl) := hI.below BX.out (Nat.le_refl _)
  have PK := hide (pack_any 1 ua uk uc dl X HI.out)
  have PU := fun W => hide (putUint_any sq W (by omega))
  have t1 := enc_ten sq
  unfold attP
  generalize packR 1 dl = PD at *
  generalize enc sq = ES at *
  obtain ⟨EE, hEE⟩ : ∃ EE, Hid (ES ++ PD = EE) := ⟨_, rfl⟩
  rw [hEE.out]
  have v0 := QL.out.cell 0 _ rfl
  have a0 := QA.out.cell 0 _ rfl
  have a1 := QA.out.cell 1 _ rfl
  clear Q0 QA0 hI
  go_enter Tryz.func149, Tryz.ntmps149
  go_upto_region 1 with fail
  rw [← hX]
  clear hX
  go_wp2_with fail
  refine PK.out.mono ?_
  rintro e w1 ⟨u1, rfl, o1, b1⟩
  have B1 : Hid (Below w.heap.size w w1) := BX.out.trans (b1.mono BX.out.size)
  have O1 := hide o1
  have a0' : w1.cell? ⟨w.heap.size + 1, 0, none⟩ = some (.int .i64 (sq : Int)) := (QA.out.on b1).cell 0 _ rfl
  clear o1 b1 v0 a0 a1 QL QA PK
  go_wp2_with fail
  refine (PU w1).out.mono ?_
  rintro e w2 ⟨v2, rfl, o2, b2⟩
  have B2 : Hid (Below w.heap.size w w2) := B1.out.trans (b2.mono B1.out.size)
  have O1' := hide (own_below O1.out b2 (Nat.le_refl _))
  have O2 := hide (own_more o2 (B' := w.heap.size) B1.out.size)
  have hs2 : w.heap.size ≤ w2.heap.size := B2.out.size
  clear o2 b2 O1 a0'
  go_wp2_with (first | (at_builtin; refine wpList_join rfl _ _ rfl w.heap.size X.heap.size v2 u1 ES PD EE hEE rfl rfl O2.out O1'.out hp0 (by omega) hs2 ?_))
  intro v' w3 ho hg
  have RR : Hid (w3.ownsRow w.heap.size 5 1 v' EE.length (EE.map (Value.int .u8)) ∧ Below w.heap.size w w3) := ⟨ho, B2.out.grown hg hs2 (fun j hj => (O2.out.lt j hj).1)⟩
  clear ho hg
  go_wp2
  go_ret
  exact ⟨v', rfl, RR.out⟩
set_option maxHeartbeats 2000000 in
set_option maxRecDepth 100000 in
theorem load1_any (c : Cm) (sq : Nat) (ua : Option Addr) (uk uc : Nat) (dl : List Int) (w : World) (hK : Knd w) (hk : c.key.size ≤ 140737488351232) (hk2 : c.key2.size ≤ 140737488351232) (hn1 : -9223372036854775808 ≤ c.n) (hn2 : c.n ≤ 9223372036854775807) (hz : chk 1 c = 0) (hsq : sq < 9223372036854775808) (hI : SegI w ua uk dl) (hp0 : 0 < (packR 1 dl).length) (hp1 : (packR 1 dl).length ≤ 1000) :
    Calls Tryz.prog 144 #[.agg #[.int .i64 c.kind, .int .i64 c.client, .int .i64 c.req, .string c.key, .string c.key2, .string c.val, .string c.old, .int .i64 c.n, .int .i64 (sq : Int), .slice ua uk uc], .agg #[.int .i64 1, .func (.func 32) #[] #[], .func (.func 33) #[] #[], .func (.func 34) #[] #[], .func (.func 35) #[] #[], .func (.func 36) #[] #[], .func (.func 37) #[] #[]]] w fun r w' => Bts w (lodP 1 c sq dl) r w' := by
  obtain ⟨X, hX⟩ : ∃ X, X = (w.alloc (.cells #[.int .i64 c.kind, .int .i64 c.client, .int .i64 c.req, .string c.key, .string c.key2, .string c.val, .string c.old, .int .i64 c.n, .int .i64 (sq : Int), .slice ua uk uc] 85)).alloc (.cells #[.int .i64 1, .func (.func 32) #[] #[], .func (.func 33) #[] #[], .func (.func 34) #[] #[], .func (.func 35) #[] #[], .func (.func 36) #[] #[], .func (.func 37) #[] #[]] 64) := ⟨_, rfl⟩
  have Q0 := blk_new w 85 [.int .i64 c.kind, .int .i64 c.client, .int .i64 c.req, .string c.key, .string c.key2, .string c.val, .string c.old, .int .i64 c.n, .int .i64 (sq : Int), .slice ua uk uc]
  have QL0 := blk_new (w.alloc (.cells #[.int .i64 c.kind, .int .i64 c.client, .int .i64 c.req, .string c.key, .string c.key2, .string c.val, .string c.old, .int .i64 c.n, .int .i64 (sq : Int), .slice ua uk uc] 85)) 64 [.int .i64 1, .func (.func 32) #[] #[], .func (.func 33) #[] #[], .func (.func 34) #[] #[], .func (.func 35) #[] #[], .func (.func 36) #[] #[], .func (.func 37) #[] #[]]
  have QA : Hid (Blk X w.heap.size [.int .i64 c.kind, .int .i64 c.client, .int .i64 c.req, .string c.key, .string c.key2, .string c.val, .string c.old, .int .i64 c.n, .int .i64 (sq : Int), .slice ua uk uc]) := by rw [hX]; exact Q0.on ((Below.refl _ _).alloc (Nat.le_refl _) _)
  have QL : Hid (Blk X (w.heap.size + 1) [.int .i64 1, .func (.func 32) #[] #[], .func (.func 33) #[] #[], .func (.func 34) #[] #[], .func (.func 35) #[] #[], .func (.func 36) #[] #[], .func (.func 37) #[] #[]]) := by rw [hX]; rw [World.size_alloc] at QL0; exact QL0
  have BX : Hid (Below w.heap.size w X) := by rw [hX]; exact ((Below.refl _ w).alloc (Nat.le_refl _) _).alloc (by simp) _
  have HI : Hid (SegI X ua uk dl) := hI.below BX.out (Nat.le_refl _)
  have EN := hide (encode_any 1 c X (hK.below BX.out (Nat.le_refl _)) hk hk2 hn1 hn2 hz)
  have AT := fun W (h : SegI W ua uk dl) => hide (attr1_any sq ua uk uc dl W hsq h hp0 hp1)
  have t1 := encC_le hz
  have t2 : (attP 1 sq dl).length ≤ 1010 := by unfold attP; rw [List.length_append]; have := enc_ten sq; omega
  have p2 : 0 < (attP 1 sq dl).length := by unfold attP; rw [List.length_append]; omega
  unfold lodP
  generalize attP 1 sq dl = AD at *
  generalize encC c = EC at *
  obtain ⟨EE, hEE⟩ : ∃ EE, Hid (EC ++ AD = EE) := ⟨_, rfl⟩
  rw [hEE.out]
  have a0 := QA.out.cell 0 _ rfl
  have a1 := QA.out.cell 1 _ rfl
  have a2 := QA.out.cell 2 _ rfl
  have a3 := QA.out.cell 3 _ rfl
  have a4 := QA.out.cell 4 _ rfl
  have a5 := QA.out.cell 5 _ rfl
  have a6 := QA.out.cell 6 _ rfl
  have a7 := QA.out.cell 7 _ rfl
  have v0 := QL.out.cell 0 _ rfl
  clear Q0 QL0 hI hz hK hp0 hp1
  go_enter Tryz.func144, Tryz.ntmps144
  go_upto_region 1 with fail
  rw [← hX]
  clear hX
  go_wp2_with fail
  refine EN.out.mono ?_
  rintro e w1 ⟨u1, rfl, o1, b1⟩
  have B1 : Hid (Below w.heap.size w w1) := BX.out.trans (b1.mono BX.out.size)
  have O1 := hide (own_more o1 (B' := w.heap.size) BX.out.size)
  have QL1 := hide (QL.out.on b1)
  have QA1 := hide (QA.out.on b1)
  have HI1 : Hid (SegI w1 ua uk dl) := HI.out.below b1 (Nat.le_refl _)
  clear o1 b1 v0 a0 a1 a2 a3 a4 a5 a6 a7 QL QA EN HI
  have c8 := QA1.out.cell 8 _ rfl
  have c9 := QA1.out.cell 9 _ rfl
  go_upto_region 2 with fail
  go_wp2_with (first | (refine wpList_load_mid rfl 64 _ rfl (w.heap.size + 1) 0 rfl [.int .i64 1, .func (.func 32) #[] #[], .func (.func 33) #[] #[], .func (.func 34) #[] #[], .func (.func 35) #[] #[], .func (.func 36) #[] #[], .func (.func 37) #[] #[]] _ QL1.out.range Tryz.underlying64 rfl (by kernel_rfl) ?_))
  refine (AT w1 HI1.out).out.mono ?_
  rintro e w2 ⟨v2, rfl, o2, b2⟩
  have B2 : Hid (Below w.heap.size w w2) := B1.out.trans (b2.mono B1.out.size)
  have O1' := hide (own_below O1.out b2 (Nat.le_refl _))
  have O2 := hide o2
  have hs2 : w.heap.size ≤ w2.heap.size := B2.out.size
  clear o2 b2 O1 c8 c9 QL1 QA1
  go_wp2_with (first | (at_builtin; refine wpList_join rfl _ _ rfl w.heap.size w1.heap.size u1 v2 EC AD EE hEE rfl rfl O1'.out O2.out p2 (by omega) hs2 ?_))
  intro v' w3 ho hg
  have RR : Hid (w3.ownsRow w.heap.size 5 1 v' EE.length (EE.map (Value.int .u8)) ∧ Below w.heap.size w w3) := ⟨ho, B2.out.grown hg hs2 (fun j hj => (O1'.out.lt j hj).1)⟩
  clear ho hg
  go_wp2
  go_ret
  exact ⟨v', rfl, RR.out⟩
set_option maxHeartbeats 2000000 in
set_option maxRecDepth 100000 in
theorem attr2_any (sq : Nat) (ua : Option Addr) (uk uc : Nat) (dl : List Int) (w : World) (hsq : sq < 9223372036854775808) (hI : SegI w ua uk dl) (hp0 : 0 < (packR 2 dl).length) (hp1 : (packR 2 dl).length ≤ 1000) :
    Calls Tryz.prog 149 #[.agg #[.int .i64 2, .func (.func 38) #[] #[], .func (.func 39) #[] #[], .func (.func 40) #[] #[], .func (.func 41) #[] #[], .func (.func 42) #[] #[], .func (.func 43) #[] #[]], .agg #[.int .i64 (sq : Int), .slice ua uk uc]] w fun r w' => Bts w (attP 2 sq dl) r w' := by
  obtain ⟨X, hX⟩ : ∃ X, X = (w.alloc (.cells #[.int .i64 2, .func (.func 38) #[] #[], .func (.func 39) #[] #[], .func (.func 40) #[] #[], .func (.func 41) #[] #[], .func (.func 42) #[] #[], .func (.func 43) #[] #[]] 64)).alloc (.cells #[.int .i64 (sq : Int), .slice ua uk uc] 83) := ⟨_, rfl⟩
  have Q0 := blk_new w 64 [.int .i64 2, .func (.func 38) #[] #[], .func (.func 39) #[] #[], .func (.func 40) #[] #[], .func (.func 41) #[] #[], .func (.func 42) #[] #[], .func (.func 43) #[] #[]]
  have QA0 := blk_new (w.alloc (.cells #[.int .i64 2, .func (.func 38) #[] #[], .func (.func 39) #[] #[], .func (.func 40) #[] #[], .func (.func 41) #[] #[], .func (.func 42) #[] #[], .func (.func 43) #[] #[]] 64)) 83 [.int .i64 (sq : Int), .slice ua uk uc]
  have QL : Hid (Blk X w.heap.size [.int .i64 2, .func (.func 38) #[] #[], .func (.func 39) #[] #[], .func (.func 40) #[] #[], .func (.func 41) #[] #[], .func (.func 42) #[] #[], .func (.func 43) #[] #[]]) := by rw [hX]; exact Q0.on ((Below.refl _ _).alloc (Nat.le_refl _) _)
  have QA : Hid (Blk X (w.heap.size + 1) [.int .i64 (sq : Int), .slice ua uk uc]) := by rw [hX]; rw [World.size_alloc] at QA0; exact QA0
  have BX : Hid (Below w.heap.size w X) := by rw [hX]; exact ((Below.refl _ w).alloc (Nat.le_refl _) _).alloc (by simp) _
  have HI : Hid (SegI X ua uk dl) := hI.below BX.out (Nat.le_refl _)
  have PK := hide (pack_any 2 ua uk uc dl X HI.out)
  have PU := fun W => hide (putUint_any sq W (by omega))
  have t1 := enc_ten sq
  unfold attP
  generalize packR 2 dl = PD at *
  generalize enc sq = ES at *
  obtain ⟨EE, hEE⟩ : ∃ EE, Hid (ES ++ PD = EE) := ⟨_, rfl⟩
  rw [hEE.out]
  have v0 := QL.out.cell 0 _ rfl
  have a0 := QA.out.cell 0 _ rfl
  have a1 := QA.out.cell 1 _ rfl
  clear Q0 QA0 hI
  go_enter Tryz.func149, Tryz.ntmps149
  go_upto_region 1 with fail
  rw [← hX]
  clear hX
  go_wp2_with fail
  refine PK.out.mono ?_
  rintro e w1 ⟨u1, rfl, o1, b1⟩
  have B1 : Hid (Below w.heap.size w w1) := BX.out.trans (b1.mono BX.out.size)
  have O1 := hide o1
  have a0' : w1.cell? ⟨w.heap.size + 1, 0, none⟩ = some (.int .i64 (sq : Int)) := (QA.out.on b1).cell 0 _ rfl
  clear o1 b1 v0 a0 a1 QL QA PK
  go_wp2_with fail
  refine (PU w1).out.mono ?_
  rintro e w2 ⟨v2, rfl, o2, b2⟩
  have B2 : Hid (Below w.heap.size w w2) := B1.out.trans (b2.mono B1.out.size)
  have O1' := hide (own_below O1.out b2 (Nat.le_refl _))
  have O2 := hide (own_more o2 (B' := w.heap.size) B1.out.size)
  have hs2 : w.heap.size ≤ w2.heap.size := B2.out.size
  clear o2 b2 O1 a0'
  go_wp2_with (first | (at_builtin; refine wpList_join rfl _ _ rfl w.heap.size X.heap.size v2 u1 ES PD EE hEE rfl rfl O2.out O1'.out hp0 (by omega) hs2 ?_))
  intro v' w3 ho hg
  have RR : Hid (w3.ownsRow w.heap.size 5 1 v' EE.length (EE.map (Value.int .u8)) ∧ Below w.heap.size w w3) := ⟨ho, B2.out.grown hg hs2 (fun j hj => (O2.out.lt j hj).1)⟩
  clear ho hg
  go_wp2
  go_ret
  exact ⟨v', rfl, RR.out⟩
set_option maxHeartbeats 2000000 in
set_option maxRecDepth 100000 in
theorem load2_any (c : Cm) (sq : Nat) (ua : Option Addr) (uk uc : Nat) (dl : List Int) (w : World) (hK : Knd w) (hk : c.key.size ≤ 140737488351232) (hk2 : c.key2.size ≤ 140737488351232) (hn1 : -9223372036854775808 ≤ c.n) (hn2 : c.n ≤ 9223372036854775807) (hz : chk 2 c = 0) (hsq : sq < 9223372036854775808) (hI : SegI w ua uk dl) (hp0 : 0 < (packR 2 dl).length) (hp1 : (packR 2 dl).length ≤ 1000) :
    Calls Tryz.prog 144 #[.agg #[.int .i64 c.kind, .int .i64 c.client, .int .i64 c.req, .string c.key, .string c.key2, .string c.val, .string c.old, .int .i64 c.n, .int .i64 (sq : Int), .slice ua uk uc], .agg #[.int .i64 2, .func (.func 38) #[] #[], .func (.func 39) #[] #[], .func (.func 40) #[] #[], .func (.func 41) #[] #[], .func (.func 42) #[] #[], .func (.func 43) #[] #[]]] w fun r w' => Bts w (lodP 2 c sq dl) r w' := by
  obtain ⟨X, hX⟩ : ∃ X, X = (w.alloc (.cells #[.int .i64 c.kind, .int .i64 c.client, .int .i64 c.req, .string c.key, .string c.key2, .string c.val, .string c.old, .int .i64 c.n, .int .i64 (sq : Int), .slice ua uk uc] 85)).alloc (.cells #[.int .i64 2, .func (.func 38) #[] #[], .func (.func 39) #[] #[], .func (.func 40) #[] #[], .func (.func 41) #[] #[], .func (.func 42) #[] #[], .func (.func 43) #[] #[]] 64) := ⟨_, rfl⟩
  have Q0 := blk_new w 85 [.int .i64 c.kind, .int .i64 c.client, .int .i64 c.req, .string c.key, .string c.key2, .string c.val, .string c.old, .int .i64 c.n, .int .i64 (sq : Int), .slice ua uk uc]
  have QL0 := blk_new (w.alloc (.cells #[.int .i64 c.kind, .int .i64 c.client, .int .i64 c.req, .string c.key, .string c.key2, .string c.val, .string c.old, .int .i64 c.n, .int .i64 (sq : Int), .slice ua uk uc] 85)) 64 [.int .i64 2, .func (.func 38) #[] #[], .func (.func 39) #[] #[], .func (.func 40) #[] #[], .func (.func 41) #[] #[], .func (.func 42) #[] #[], .func (.func 43) #[] #[]]
  have QA : Hid (Blk X w.heap.size [.int .i64 c.kind, .int .i64 c.client, .int .i64 c.req, .string c.key, .string c.key2, .string c.val, .string c.old, .int .i64 c.n, .int .i64 (sq : Int), .slice ua uk uc]) := by rw [hX]; exact Q0.on ((Below.refl _ _).alloc (Nat.le_refl _) _)
  have QL : Hid (Blk X (w.heap.size + 1) [.int .i64 2, .func (.func 38) #[] #[], .func (.func 39) #[] #[], .func (.func 40) #[] #[], .func (.func 41) #[] #[], .func (.func 42) #[] #[], .func (.func 43) #[] #[]]) := by rw [hX]; rw [World.size_alloc] at QL0; exact QL0
  have BX : Hid (Below w.heap.size w X) := by rw [hX]; exact ((Below.refl _ w).alloc (Nat.le_refl _) _).alloc (by simp) _
  have HI : Hid (SegI X ua uk dl) := hI.below BX.out (Nat.le_refl _)
  have EN := hide (encode_any 2 c X (hK.below BX.out (Nat.le_refl _)) hk hk2 hn1 hn2 hz)
  have AT := fun W (h : SegI W ua uk dl) => hide (attr2_any sq ua uk uc dl W hsq h hp0 hp1)
  have t1 := encC_le hz
  have t2 : (attP 2 sq dl).length ≤ 1010 := by unfold attP; rw [List.length_append]; have := enc_ten sq; omega
  have p2 : 0 < (attP 2 sq dl).length := by unfold attP; rw [List.length_append]; omega
  unfold lodP
  generalize attP 2 sq dl = AD at *
  generalize encC c = EC at *
  obtain ⟨EE, hEE⟩ : ∃ EE, Hid (EC ++ AD = EE) := ⟨_, rfl⟩
  rw [hEE.out]
  have a0 := QA.out.cell 0 _ rfl
  have a1 := QA.out.cell 1 _ rfl
  have a2 := QA.out.cell 2 _ rfl
  have a3 := QA.out.cell 3 _ rfl
  have a4 := QA.out.cell 4 _ rfl
  have a5 := QA.out.cell 5 _ rfl
  have a6 := QA.out.cell 6 _ rfl
  have a7 := QA.out.cell 7 _ rfl
  have v0 := QL.out.cell 0 _ rfl
  clear Q0 QL0 hI hz hK hp0 hp1
  go_enter Tryz.func144, Tryz.ntmps144
  go_upto_region 1 with fail
  rw [← hX]
  clear hX
  go_wp2_with fail
  refine EN.out.mono ?_
  rintro e w1 ⟨u1, rfl, o1, b1⟩
  have B1 : Hid (Below w.heap.size w w1) := BX.out.trans (b1.mono BX.out.size)
  have O1 := hide (own_more o1 (B' := w.heap.size) BX.out.size)
  have QL1 := hide (QL.out.on b1)
  have QA1 := hide (QA.out.on b1)
  have HI1 : Hid (SegI w1 ua uk dl) := HI.out.below b1 (Nat.le_refl _)
  clear o1 b1 v0 a0 a1 a2 a3 a4 a5 a6 a7 QL QA EN HI
  have c8 := QA1.out.cell 8 _ rfl
  have c9 := QA1.out.cell 9 _ rfl
  go_upto_region 2 with fail
  go_wp2_with (first | (refine wpList_load_mid rfl 64 _ rfl (w.heap.size + 1) 0 rfl [.int .i64 2, .func (.func 38) #[] #[], .func (.func 39) #[] #[], .func (.func 40) #[] #[], .func (.func 41) #[] #[], .func (.func 42) #[] #[], .func (.func 43) #[] #[]] _ QL1.out.range Tryz.underlying64 rfl (by kernel_rfl) ?_))
  refine (AT w1 HI1.out).out.mono ?_
  rintro e w2 ⟨v2, rfl, o2, b2⟩
  have B2 : Hid (Below w.heap.size w w2) := B1.out.trans (b2.mono B1.out.size)
  have O1' := hide (own_below O1.out b2 (Nat.le_refl _))
  have O2 := hide o2
  have hs2 : w.heap.size ≤ w2.heap.size := B2.out.size
  clear o2 b2 O1 c8 c9 QL1 QA1
  go_wp2_with (first | (at_builtin; refine wpList_join rfl _ _ rfl w.heap.size w1.heap.size u1 v2 EC AD EE hEE rfl rfl O1'.out O2.out p2 (by omega) hs2 ?_))
  intro v' w3 ho hg
  have RR : Hid (w3.ownsRow w.heap.size 5 1 v' EE.length (EE.map (Value.int .u8)) ∧ Below w.heap.size w w3) := ⟨ho, B2.out.grown hg hs2 (fun j hj => (O1'.out.lt j hj).1)⟩
  clear ho hg
  go_wp2
  go_ret
  exact ⟨v', rfl, RR.out⟩
end Go.Proofs.YtooejihnifphkaaGreatDoor
