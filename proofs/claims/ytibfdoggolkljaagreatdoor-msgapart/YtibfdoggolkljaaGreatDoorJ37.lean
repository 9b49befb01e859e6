import Derived.Lib.AppendZerosOnto
import Derived.Lib.SliceRun
import Derived.Test.YtibfdoggolkljaaGreatDoorJ36
set_option maxHeartbeats 4000000
set_option maxRecDepth 100000
namespace Go.Proofs.YtibfdoggolkljaaGreatDoor
open Go.RowKit Go.Wire1
def attP (v : Int) (sq : Nat) (dl : List Int) : List Int := enc sq ++ packR v dl
def lodP (v : Int) (c : Cm) (sq : Nat) (dl : List Int) : List Int := encC c ++ attP v sq dl
theorem attr1_any (sq : Nat) (ua : Option Addr) (uk uc : Nat) (dl : List Int) (w : World) (hsq : sq < 9223372036854775808) (hI : SegI w ua uk dl) (hp0 : 0 < (packR 1 dl).length) (hp1 : (packR 1 dl).length ≤ 1000) :
  Calls Tryz.prog 142 #[.agg #[.int .i64 1, .func (.func 25) #[] #[], .func (.func 26) #[] #[], .func (.func 27) #[] #[], .func (.func 28) #[] #[], .func (.func 29) #[] #[], .func (.func 30) #[] #[]], .agg #[.int .i64 sq, .slice ua uk uc]] w fun r w' => Bts w (attP 1 sq dl) r w' := by
 obtain ⟨X, hX⟩ : ∃ X, X = (w.alloc (.cells #[.int .i64 1, .func (.func 25) #[] #[], .func (.func 26) #[] #[], .func (.func 27) #[] #[], .func (.func 28) #[] #[], .func (.func 29) #[] #[], .func (.func 30) #[] #[]] 55)).alloc (.cells #[.int .i64 sq, .slice ua uk uc] 74) := ⟨_, rfl⟩
 have Q0 := blk_new w 55 [.int .i64 1, .func (.func 25) #[] #[], .func (.func 26) #[] #[], .func (.func 27) #[] #[], .func (.func 28) #[] #[], .func (.func 29) #[] #[], .func (.func 30) #[] #[]]
 have QA0 := blk_new (w.alloc (.cells #[.int .i64 1, .func (.func 25) #[] #[], .func (.func 26) #[] #[], .func (.func 27) #[] #[], .func (.func 28) #[] #[], .func (.func 29) #[] #[], .func (.func 30) #[] #[]] 55)) 74 [.int .i64 sq, .slice ua uk uc]
 have QL : Hid (Blk X w.heap.size [.int .i64 1, .func (.func 25) #[] #[], .func (.func 26) #[] #[], .func (.func 27) #[] #[], .func (.func 28) #[] #[], .func (.func 29) #[] #[], .func (.func 30) #[] #[]]) := by rw [hX]; exact Q0.on ((Below.refl _ _).alloc zN _)
 have QA : Hid (Blk X (w.heap.size + 1) [.int .i64 sq, .slice ua uk uc]) := by rw [hX]; rw [World.size_alloc] at QA0; exact QA0
 have BX : Hid (Below w.heap.size w X) := by rw [hX]; exact ((Below.refl _ w).alloc zN _).alloc (by simp) _
 have HI : Hid (SegI X ua uk dl) := hI.below BX.out zN
 have PK := hide (pack_any 1 ua uk uc dl X HI.out)
 have PU := fun W => hide (putUint_any sq W (by omega))
 have t1 := enc_ten sq
 unfold attP
 generalize packR 1 dl = PD at *
 generalize enc sq = ES at *
 obtain ⟨EE, hEE⟩ : ∃ EE, Hid (ES ++ PD = EE) := ⟨_, rfl⟩
 rw [hEE.out]
 have v0 := QL.out.cell 0 _ rfl
 have a0 := QA.out.cell 0 _ rfl
 have a1 := QA.out.cell 1 _ rfl
 clear Q0 QA0 hI
 go_enter Tryz.func142, Tryz.ntmps142
 go_upto_region 1 with fail
 rw [← hX]
 clear hX
 go_wp2_with fail
 refine PK.out.mono ?_
 rintro e w1 ⟨u1, rfl, o1, b1⟩
 have B1 : Hid (Below w.heap.size w w1) := BX.out.trans (b1.mono BX.out.size)
 have O1 := hide o1
 have a0' : w1.cell? ⟨w.heap.size + 1, 0, none⟩ = some (.int .i64 sq) := (QA.out.on b1).cell 0 _ rfl
 clear o1 b1 v0 a0 a1 QL QA PK
 go_wp2_with fail
 refine (PU w1).out.mono ?_
 rintro e w2 ⟨v2, rfl, o2, b2⟩
 have B2 : Hid (Below w.heap.size w w2) := B1.out.trans (b2.mono B1.out.size)
 have O1' := hide (own_below O1.out b2 zN)
 have O2 := hide (own_more o2 (B' := w.heap.size) B1.out.size)
 have hs2 : w.heap.size ≤ w2.heap.size := B2.out.size
 clear o2 b2 O1 a0'
 go_wp2_with (first | (at_builtin; refine wpList_join rfl _ _ rfl w.heap.size X.heap.size v2 u1 ES PD EE hEE rfl rfl O2.out O1'.out hp0 (by omega) hs2 ?_))
 intro v' w3 ho hg
 have RR : Hid (w3.ownsRow w.heap.size 5 1 v' EE.length (EE.map (Value.int .u8)) ∧ Below w.heap.size w w3) := ⟨ho, B2.out.grown hg hs2 (fun j hj => (O2.out.lt j hj).1)⟩
 clear ho hg
 go_wp2
 go_ret
 exact ⟨v', rfl, RR.out⟩
theorem load1_any (c : Cm) (sq : Nat) (ua : Option Addr) (uk uc : Nat) (dl : List Int) (w : World) (hK : Knd w) (hk : c.key.size ≤ 140737488351232) (hk2 : c.key2.size ≤ 140737488351232) (hn1 : -9223372036854775808 ≤ c.n) (hn2 : c.n ≤ 9223372036854775807) (hz : chk 1 c = 0) (hsq : sq < 9223372036854775808) (hI : SegI w ua uk dl) (hp0 : 0 < (packR 1 dl).length) (hp1 : (packR 1 dl).length ≤ 1000) :
  Calls Tryz.prog 137 #[.agg #[.int .i64 c.kind, .int .i64 c.client, .int .i64 c.req, .string c.key, .string c.key2, .string c.val, .string c.old, .int .i64 c.n, .int .i64 sq, .slice ua uk uc], .agg #[.int .i64 1, .func (.func 25) #[] #[], .func (.func 26) #[] #[], .func (.func 27) #[] #[], .func (.func 28) #[] #[], .func (.func 29) #[] #[], .func (.func 30) #[] #[]]] w fun r w' => Bts w (lodP 1 c sq dl) r w' := by
 obtain ⟨X, hX⟩ : ∃ X, X = (w.alloc (.cells #[.int .i64 c.kind, .int .i64 c.client, .int .i64 c.req, .string c.key, .string c.key2, .string c.val, .string c.old, .int .i64 c.n, .int .i64 sq, .slice ua uk uc] 76)).alloc (.cells #[.int .i64 1, .func (.func 25) #[] #[], .func (.func 26) #[] #[], .func (.func 27) #[] #[], .func (.func 28) #[] #[], .func (.func 29) #[] #[], .func (.func 30) #[] #[]] 55) := ⟨_, rfl⟩
 have Q0 := blk_new w 76 [.int .i64 c.kind, .int .i64 c.client, .int .i64 c.req, .string c.key, .string c.key2, .string c.val, .string c.old, .int .i64 c.n, .int .i64 sq, .slice ua uk uc]
 have QL0 := blk_new (w.alloc (.cells #[.int .i64 c.kind, .int .i64 c.client, .int .i64 c.req, .string c.key, .string c.key2, .string c.val, .string c.old, .int .i64 c.n, .int .i64 sq, .slice ua uk uc] 76)) 55 [.int .i64 1, .func (.func 25) #[] #[], .func (.func 26) #[] #[], .func (.func 27) #[] #[], .func (.func 28) #[] #[], .func (.func 29) #[] #[], .func (.func 30) #[] #[]]
 have QA : Hid (Blk X w.heap.size [.int .i64 c.kind, .int .i64 c.client, .int .i64 c.req, .string c.key, .string c.key2, .string c.val, .string c.old, .int .i64 c.n, .int .i64 sq, .slice ua uk uc]) := by rw [hX]; exact Q0.on ((Below.refl _ _).alloc zN _)
 have QL : Hid (Blk X (w.heap.size + 1) [.int .i64 1, .func (.func 25) #[] #[], .func (.func 26) #[] #[], .func (.func 27) #[] #[], .func (.func 28) #[] #[], .func (.func 29) #[] #[], .func (.func 30) #[] #[]]) := by rw [hX]; rw [World.size_alloc] at QL0; exact QL0
 have BX : Hid (Below w.heap.size w X) := by rw [hX]; exact ((Below.refl _ w).alloc zN _).alloc (by simp) _
 have HI : Hid (SegI X ua uk dl) := hI.below BX.out zN
 have EN := hide (encode_any 1 c X (hK.below BX.out zN) hk hk2 hn1 hn2 hz)
 have AT := fun W (h : SegI W ua uk dl) => hide (attr1_any sq ua uk uc dl W hsq h hp0 hp1)
 have t1 := encC_le hz
 have t2 : (attP 1 sq dl).length ≤ 1010 := by unfold attP; rw [zL]; have := enc_ten sq; omega
 have p2 : 0 < (attP 1 sq dl).length := by unfold attP; rw [zL]; omega
 unfold lodP
 generalize attP 1 sq dl = AD at *
 generalize encC c = EC at *
 obtain ⟨EE, hEE⟩ : ∃ EE, Hid (EC ++ AD = EE) := ⟨_, rfl⟩
 rw [hEE.out]
 have a0 := QA.out.cell 0 _ rfl
 have a1 := QA.out.cell 1 _ rfl
 have a2 := QA.out.cell 2 _ rfl
 have a3 := QA.out.cell 3 _ rfl
 have a4 := QA.out.cell 4 _ rfl
 have a5 := QA.out.cell 5 _ rfl
 have a6 := QA.out.cell 6 _ rfl
 have a7 := QA.out.cell 7 _ rfl
 have v0 := QL.out.cell 0 _ rfl
 clear Q0 QL0 hI hz hK hp0 hp1
 go_enter Tryz.func137, Tryz.ntmps137
 go_upto_region 1 with fail
 rw [← hX]
 clear hX
 go_wp2_with fail
 refine EN.out.mono ?_
 rintro e w1 ⟨u1, rfl, o1, b1⟩
 have B1 : Hid (Below w.heap.size w w1) := BX.out.trans (b1.mono BX.out.size)
 have O1 := hide (own_more o1 (B' := w.heap.size) BX.out.size)
 have QL1 := hide (QL.out.on b1)
 have QA1 := hide (QA.out.on b1)
 have HI1 : Hid (SegI w1 ua uk dl) := HI.out.below b1 zN
 clear o1 b1 v0 a0 a1 a2 a3 a4 a5 a6 a7 QL QA EN HI
 have c8 := QA1.out.cell 8 _ rfl
 have c9 := QA1.out.cell 9 _ rfl
 go_upto_region 2 with fail
 go_wp2_with (first | (refine wpList_load_mid rfl 55 _ rfl (w.heap.size + 1) 0 rfl [.int .i64 1, .func (.func 25) #[] #[], .func (.func 26) #[] #[], .func (.func 27) #[] #[], .func (.func 28) #[] #[], .func (.func 29) #[] #[], .func (.func 30) #[] #[]] _ QL1.out.range Tryz.underlying55 rfl (by kernel_rfl) ?_))
 refine (AT w1 HI1.out).out.mono ?_
 rintro e w2 ⟨v2, rfl, o2, b2⟩
 have B2 : Hid (Below w.heap.size w w2) := B1.out.trans (b2.mono B1.out.size)
 have O1' := hide (own_below O1.out b2 zN)
 have O2 := hide o2
 have hs2 : w.heap.size ≤ w2.heap.size := B2.out.size
 clear o2 b2 O1 c8 c9 QL1 QA1
 go_wp2_with (first | (at_builtin; refine wpList_join rfl _ _ rfl w.heap.size w1.heap.size u1 v2 EC AD EE hEE rfl rfl O1'.out O2.out p2 (by omega) hs2 ?_))
 intro v' w3 ho hg
 have RR : Hid (w3.ownsRow w.heap.size 5 1 v' EE.length (EE.map (Value.int .u8)) ∧ Below w.heap.size w w3) := ⟨ho, B2.out.grown hg hs2 (fun j hj => (O1'.out.lt j hj).1)⟩
 clear ho hg
 go_wp2
 go_ret
 exact ⟨v', rfl, RR.out⟩
theorem attr2_any (sq : Nat) (ua : Option Addr) (uk uc : Nat) (dl : List Int) (w : World) (hsq : sq < 9223372036854775808) (hI : SegI w ua uk dl) (hp0 : 0 < (packR 2 dl).length) (hp1 : (packR 2 dl).length ≤ 1000) :
  Calls Tryz.prog 142 #[.agg #[.int .i64 2, .func (.func 31) #[] #[], .func (.func 32) #[] #[], .func (.func 33) #[] #[], .func (.func 34) #[] #[], .func (.func 35) #[] #[], .func (.func 36) #[] #[]], .agg #[.int .i64 sq, .slice ua uk uc]] w fun r w' => Bts w (attP 2 sq dl) r w' := by
 obtain ⟨X, hX⟩ : ∃ X, X = (w.alloc (.cells #[.int .i64 2, .func (.func 31) #[] #[], .func (.func 32) #[] #[], .func (.func 33) #[] #[], .func (.func 34) #[] #[], .func (.func 35) #[] #[], .func (.func 36) #[] #[]] 55)).alloc (.cells #[.int .i64 sq, .slice ua uk uc] 74) := ⟨_, rfl⟩
 have Q0 := blk_new w 55 [.int .i64 2, .func (.func 31) #[] #[], .func (.func 32) #[] #[], .func (.func 33) #[] #[], .func (.func 34) #[] #[], .func (.func 35) #[] #[], .func (.func 36) #[] #[]]
 have QA0 := blk_new (w.alloc (.cells #[.int .i64 2, .func (.func 31) #[] #[], .func (.func 32) #[] #[], .func (.func 33) #[] #[], .func (.func 34) #[] #[], .func (.func 35) #[] #[], .func (.func 36) #[] #[]] 55)) 74 [.int .i64 sq, .slice ua uk uc]
 have QL : Hid (Blk X w.heap.size [.int .i64 2, .func (.func 31) #[] #[], .func (.func 32) #[] #[], .func (.func 33) #[] #[], .func (.func 34) #[] #[], .func (.func 35) #[] #[], .func (.func 36) #[] #[]]) := by rw [hX]; exact Q0.on ((Below.refl _ _).alloc zN _)
 have QA : Hid (Blk X (w.heap.size + 1) [.int .i64 sq, .slice ua uk uc]) := by rw [hX]; rw [World.size_alloc] at QA0; exact QA0
 have BX : Hid (Below w.heap.size w X) := by rw [hX]; exact ((Below.refl _ w).alloc zN _).alloc (by simp) _
 have HI : Hid (SegI X ua uk dl) := hI.below BX.out zN
 have PK := hide (pack_any 2 ua uk uc dl X HI.out)
 have PU := fun W => hide (putUint_any sq W (by omega))
 have t1 := enc_ten sq
 unfold attP
 generalize packR 2 dl = PD at *
 generalize enc sq = ES at *
 obtain ⟨EE, hEE⟩ : ∃ EE, Hid (ES ++ PD = EE) := ⟨_, rfl⟩
 rw [hEE.out]
 have v0 := QL.out.cell 0 _ rfl
 have a0 := QA.out.cell 0 _ rfl
 have a1 := QA.out.cell 1 _ rfl
 clear Q0 QA0 hI
 go_enter Tryz.func142, Tryz.ntmps142
 go_upto_region 1 with fail
 rw [← hX]
 clear hX
 go_wp2_with fail
 refine PK.out.mono ?_
 rintro e w1 ⟨u1, rfl, o1, b1⟩
 have B1 : Hid (Below w.heap.size w w1) := BX.out.trans (b1.mono BX.out.size)
 have O1 := hide o1
 have a0' : w1.cell? ⟨w.heap.size + 1, 0, none⟩ = some (.int .i64 sq) := (QA.out.on b1).cell 0 _ rfl
 clear o1 b1 v0 a0 a1 QL QA PK
 go_wp2_with fail
 refine (PU w1).out.mono ?_
 rintro e w2 ⟨v2, rfl, o2, b2⟩
 have B2 : Hid (Below w.heap.size w w2) := B1.out.trans (b2.mono B1.out.size)
 have O1' := hide (own_below O1.out b2 zN)
 have O2 := hide (own_more o2 (B' := w.heap.size) B1.out.size)
 have hs2 : w.heap.size ≤ w2.heap.size := B2.out.size
 clear o2 b2 O1 a0'
 go_wp2_with (first | (at_builtin; refine wpList_join rfl _ _ rfl w.heap.size X.heap.size v2 u1 ES PD EE hEE rfl rfl O2.out O1'.out hp0 (by omega) hs2 ?_))
 intro v' w3 ho hg
 have RR : Hid (w3.ownsRow w.heap.size 5 1 v' EE.length (EE.map (Value.int .u8)) ∧ Below w.heap.size w w3) := ⟨ho, B2.out.grown hg hs2 (fun j hj => (O2.out.lt j hj).1)⟩
 clear ho hg
 go_wp2
 go_ret
 exact ⟨v', rfl, RR.out⟩
theorem load2_any (c : Cm) (sq : Nat) (ua : Option Addr) (uk uc : Nat) (dl : List Int) (w : World) (hK : Knd w) (hk : c.key.size ≤ 140737488351232) (hk2 : c.key2.size ≤ 140737488351232) (hn1 : -9223372036854775808 ≤ c.n) (hn2 : c.n ≤ 9223372036854775807) (hz : chk 2 c = 0) (hsq : sq < 9223372036854775808) (hI : SegI w ua uk dl) (hp0 : 0 < (packR 2 dl).length) (hp1 : (packR 2 dl).length ≤ 1000) :
  Calls Tryz.prog 137 #[.agg #[.int .i64 c.kind, .int .i64 c.client, .int .i64 c.req, .string c.key, .string c.key2, .string c.val, .string c.old, .int .i64 c.n, .int .i64 sq, .slice ua uk uc], .agg #[.int .i64 2, .func (.func 31) #[] #[], .func (.func 32) #[] #[], .func (.func 33) #[] #[], .func (.func 34) #[] #[], .func (.func 35) #[] #[], .func (.func 36) #[] #[]]] w fun r w' => Bts w (lodP 2 c sq dl) r w' := by
 obtain ⟨X, hX⟩ : ∃ X, X = (w.alloc (.cells #[.int .i64 c.kind, .int .i64 c.client, .int .i64 c.req, .string c.key, .string c.key2, .string c.val, .string c.old, .int .i64 c.n, .int .i64 sq, .slice ua uk uc] 76)).alloc (.cells #[.int .i64 2, .func (.func 31) #[] #[], .func (.func 32) #[] #[], .func (.func 33) #[] #[], .func (.func 34) #[] #[], .func (.func 35) #[] #[], .func (.func 36) #[] #[]] 55) := ⟨_, rfl⟩
 have Q0 := blk_new w 76 [.int .i64 c.kind, .int .i64 c.client, .int .i64 c.req, .string c.key, .string c.key2, .string c.val, .string c.old, .int .i64 c.n, .int .i64 sq, .slice ua uk uc]
 have QL0 := blk_new (w.alloc (.cells #[.int .i64 c.kind, .int .i64 c.client, .int .i64 c.req, .string c.key, .string c.key2, .string c.val, .string c.old, .int .i64 c.n, .int .i64 sq, .slice ua uk uc] 76)) 55 [.int .i64 2, .func (.func 31) #[] #[], .func (.func 32) #[] #[], .func (.func 33) #[] #[], .func (.func 34) #[] #[], .func (.func 35) #[] #[], .func (.func 36) #[] #[]]
 have QA : Hid (Blk X w.heap.size [.int .i64 c.kind, .int .i64 c.client, .int .i64 c.req, .string c.key, .string c.key2, .string c.val, .string c.old, .int .i64 c.n, .int .i64 sq, .slice ua uk uc]) := by rw [hX]; exact Q0.on ((Below.refl _ _).alloc zN _)
 have QL : Hid (Blk X (w.heap.size + 1) [.int .i64 2, .func (.func 31) #[] #[], .func (.func 32) #[] #[], .func (.func 33) #[] #[], .func (.func 34) #[] #[], .func (.func 35) #[] #[], .func (.func 36) #[] #[]]) := by rw [hX]; rw [World.size_alloc] at QL0; exact QL0
 have BX : Hid (Below w.heap.size w X) := by rw [hX]; exact ((Below.refl _ w).alloc zN _).alloc (by simp) _
 have HI : Hid (SegI X ua uk dl) := hI.below BX.out zN
 have EN := hide (encode_any 2 c X (hK.below BX.out zN) hk hk2 hn1 hn2 hz)
 have AT := fun W (h : SegI W ua uk dl) => hide (attr2_any sq ua uk uc dl W hsq h hp0 hp1)
 have t1 := encC_le hz
 have t2 : (attP 2 sq dl).length ≤ 1010 := by unfold attP; rw [zL]; have := enc_ten sq; omega
 have p2 : 0 < (attP 2 sq dl).length := by unfold attP; rw [zL]; omega
 unfold lodP
 generalize attP 2 sq dl = AD at *
 generalize encC c = EC at *
 obtain ⟨EE, hEE⟩ : ∃ EE, Hid (EC ++ AD = EE) := ⟨_, rfl⟩
 rw [hEE.out]
 have a0 := QA.out.cell 0 _ rfl
 have a1 := QA.out.cell 1 _ rfl
 have a2 := QA.out.cell 2 _ rfl
 have a3 := QA.out.cell 3 _ rfl
 have a4 := QA.out.cell 4 _ rfl
 have a5 := QA.out.cell 5 _ rfl
 have a6 := QA.out.cell 6 _ rfl
 have a7 := QA.out.cell 7 _ rfl
 have v0 := QL.out.cell 0 _ rfl
 clear Q0 QL0 hI hz hK hp0 hp1
 go_enter Tryz.func137, Tryz.ntmps137
 go_upto_region 1 with fail
 rw [← hX]
 clear hX
 go_wp2_with fail
 refine EN.out.mono ?_
 rintro e w1 ⟨u1, rfl, o1, b1⟩
 have B1 : Hid (Below w.heap.size w w1) := BX.out.trans (b1.mono BX.out.size)
 have O1 := hide (own_more o1 (B' := w.heap.size) BX.out.size)
 have QL1 := hide (QL.out.on b1)
 have QA1 := hide (QA.out.on b1)
 have HI1 : Hid (SegI w1 ua uk dl) := HI.out.below b1 zN
 clear o1 b1 v0 a0 a1 a2 a3 a4 a5 a6 a7 QL QA EN HI
 have c8 := QA1.out.cell 8 _ rfl
 have c9 := QA1.out.cell 9 _ rfl
 go_upto_region 2 with fail
 go_wp2_with (first | (refine wpList_load_mid rfl 55 _ rfl (w.heap.size + 1) 0 rfl [.int .i64 2, .func (.func 31) #[] #[], .func (.func 32) #[] #[], .func (.func 33) #[] #[], .func (.func 34) #[] #[], .func (.func 35) #[] #[], .func (.func 36) #[] #[]] _ QL1.out.range Tryz.underlying55 rfl (by kernel_rfl) ?_))
 refine (AT w1 HI1.out).out.mono ?_
 rintro e w2 ⟨v2, rfl, o2, b2⟩
 have B2 : Hid (Below w.heap.size w w2) := B1.out.trans (b2.mono B1.out.size)
 have O1' := hide (own_below O1.out b2 zN)
 have O2 := hide o2
 have hs2 : w.heap.size ≤ w2.heap.size := B2.out.size
 clear o2 b2 O1 c8 c9 QL1 QA1
 go_wp2_with (first | (at_builtin; refine wpList_join rfl _ _ rfl w.heap.size w1.heap.size u1 v2 EC AD EE hEE rfl rfl O1'.out O2.out p2 (by omega) hs2 ?_))
 intro v' w3 ho hg
 have RR : Hid (w3.ownsRow w.heap.size 5 1 v' EE.length (EE.map (Value.int .u8)) ∧ Below w.heap.size w w3) := ⟨ho, B2.out.grown hg hs2 (fun j hj => (O1'.out.lt j hj).1)⟩
 clear ho hg
 go_wp2
 go_ret
 exact ⟨v', rfl, RR.out⟩
open Go.RowKit Go.Wire1
theorem grow_room (base : Option Addr) (l c n : Nat) (w : World) (hlc : l ≤ c) (hc63 : c ≤ 9223372036854775807) (hn63 : n ≤ 9223372036854775807) (hroom : l + n ≤ c) :
  Calls Tryz.prog 140 #[.slice base l c, .int .i64 n] w fun e w' => e = .returned (.slice base l c) ∧ w' = w := by
 have h1 : ¬ ((n : Int) < 0) := by omega
 have h2 : wrap64 ((c : Int) - (l : Int)) = (c : Int) - (l : Int) := by unfold wrap64; omega
 have h3 : wrap64 ((n : Int) - ((c : Int) - (l : Int))) = (n : Int) - ((c : Int) - (l : Int)) := by unfold wrap64; omega
 have h4 : ¬ ((n : Int) - ((c : Int) - (l : Int)) > 0) := by omega
 go_enter Tryz.func140, Tryz.ntmps140
 go_wp2
 go_ret
 exact ⟨rfl, rfl⟩
def Grew (w : World) (l n c : Nat) (cs : List Value) (e : Ending) (w' : World) : Prop := ∃ (G : Nat) (zs : List Value), l + n ≤ G ∧ G ≤ maxLen ∧ zs.length = G - c ∧ e = .returned (.slice (some ⟨w.heap.size, 0, none⟩) l G) ∧ w' = w.drew.alloc (.cells (cs ++ zs).toArray 5)
theorem grow_grow (base : Option Addr) (l c n : Nat) (cs : List Value) (w : World) (hlc : l ≤ c) (hroom : c < l + n) (hbig : l + n ≤ 140737488355328)
  (hcl : cs.length = c) (hnil : base = none → c = 0) (hcs : ∀ a, base = some a → ∀ j v, cs[j]? = some v → w.cell? (a.add j) = some v) :
  Calls Tryz.prog 140 #[.slice base l c, .int .i64 n] w fun e w' => Grew w l n c cs e w' := by
 obtain ⟨i0, hi0, hz0, hz1, hz2⟩ := info_parts Tryz.info5
 have h1 : ¬ ((n : Int) < 0) := by omega
 have h2 : wrap64 ((c : Int) - (l : Int)) = (c : Int) - (l : Int) := by unfold wrap64; omega
 have h3 : wrap64 ((n : Int) - ((c : Int) - (l : Int))) = (n : Int) - ((c : Int) - (l : Int)) := by unfold wrap64; omega
 have h4 : (n : Int) - ((c : Int) - (l : Int)) > 0 := by omega
 have hck : c + (l + n - c) = l + n := by omega
 have hold : (Builtin.firstCells i0.size c (.slice base c c)).run Tryz.prog w.drew = .ok cs.toArray w.drew := by
  cases base with
  | none =>
   have h0 := hnil rfl
   subst h0
   have hc0 : cs = [] := List.length_eq_zero_iff.1 hcl
   rw [hc0]
   exact run_firstCells_none w.drew i0.size 0 0 0
  | some a => exact run_firstCells_some w.drew i0.size c a c c cs (by rw [hcl, hz1]; omega) (fun j v hj => hcs a rfl j v hj)
 obtain ⟨G, hG⟩ : ∃ G, G = grownCap w (l + n) c 5 := ⟨_, rfl⟩
 have hGn : l + n ≤ G := by rw [hG]; exact grownCap_ge w _ _ _
 have hGm : G ≤ maxLen := by rw [hG]; exact grownCap_le_maxLen w (l + n) c 5 (by unfold maxLen; omega)
 obtain ⟨zs, hzs⟩ : ∃ zs : List Value, zs = (Builtin.zeroCells (Value.cells (.int .u8 0)) (l + n - c)).toList ++ (Builtin.zeroCells (Value.cells (.int .u8 0)) (G - (l + n))).toList := ⟨_, rfl⟩
 have hzl : zs.length = G - c := by rw [hzs]; simp [Builtin.zeroCells, Value.cells]; omega
 have hrz : ∀ ty, (Builtin.append_ #[32, 3] ty #[.slice base c c, .int .i64 ((n : Int) - ((c : Int) - (l : Int)))]).run Tryz.prog w =
   .ok (.slice (some ⟨w.heap.size, 0, none⟩) (l + n) G) (w.drew.alloc (.cells (cs ++ zs).toArray 5)) := fun ty => by
  have h := Lib.run_append_grow_zeros w 32 3 ty 5 i0 (.int .u8 0) .i64 .i64 Tryz.underlying32 Tryz.underlying3 hi0 hz0 base c c cs hold (l + n - c) (by omega) (by omega) (by omega) (by omega)
   (by rw [hz2]; omega) (by rw [hck]; exact growslice_fits hroom (by rw [hz2]; omega))
  rw [hck, ← hG] at h
  rw [show (n : Int) - ((c : Int) - (l : Int)) = ((l + n - c : Nat) : Int) by omega, h, hzs]
  congr 3
  apply Array.ext'
  simp
 have hG63 : G ≤ 9223372036854775807 := by unfold maxLen at hGm; omega
 have HE : Hid (Grew w l n c cs (.returned (.slice (some ⟨w.heap.size, 0, none⟩) l G)) (w.drew.alloc (.cells (cs ++ zs).toArray 5))) := ⟨G, zs, hGn, hGm, hzl, rfl, rfl⟩
 clear hold hck hG hcs hcl hGm hzl hzs hi0 hz0 hz1 hz2
 go_enter Tryz.func140, Tryz.ntmps140
 cases base with
 | none =>
  have h0 := hnil rfl
  subst h0
  obtain rfl : l = 0 := by omega
  go_wp2_with (at_builtin; refine Lib.wpList_append_run _ rfl _ _ _ _ rfl _ _ rfl rfl _ _ (hrz _) ?_)
  all_goals go_ret
  all_goals exact HE.out
 | some a =>
  obtain ⟨ab, ao, asp⟩ := a
  go_wp2_with (at_builtin; refine Lib.wpList_append_run _ rfl _ _ _ _ rfl _ _ rfl rfl _ _ (hrz _) ?_)
  all_goals go_ret
  all_goals exact HE.out
theorem grow_nil (n : Nat) (w : World) (hn : n ≤ 1000000) :
  Calls Tryz.prog 140 #[.slice none 0 0, .int .i64 n] w fun e w' => ∃ v, e = .returned v ∧ w'.ownsRow w.heap.size 5 1 v 0 [] ∧ Below w.heap.size w w' := by
 by_cases h0 : n = 0
 ·subst h0
  refine (grow_room none 0 0 0 w (by decide) (by decide) (by decide) (by decide)).mono ?_
  rintro e w' ⟨rfl, rfl⟩
  exact ⟨_, rfl, World.ownsRow_nil _ _ _ _, Below.refl _ _⟩
 ·refine (grow_grow none 0 0 n [] w zN (by omega) (by omega) rfl (fun _ => rfl) (fun a e => by cases e)).mono ?_
  rintro e w' ⟨G, zs, h1, h2, h3, rfl, rfl⟩
  refine ⟨_, rfl, ⟨rfl, .inr ⟨w.heap.size, G, zs.toArray, rfl, Nat.le_refl _, heap_alloc_new w.drew _, Nat.zero_le _, h2, by simp; omega, rfl⟩⟩, (Below.refl _ _).drew.alloc zN _⟩
def Srcs (w : World) (g : Nat) (us : List Value) (Ls : List (List Int)) : Prop := us.length = Ls.length ∧ ∀ i, i < Ls.length → w.cell? ⟨g, i, none⟩ = some (us.getD i undef) ∧ (∃ C, w.ownsRow C 5 1 (us.getD i undef) (Ls.getD i []).length ((Ls.getD i []).map (Value.int .u8))) ∧ 0 < (Ls.getD i []).length
theorem cat_snoc {Ls : List (List Int)} {i : Nat} (h : i < Ls.length) : (Ls.take (i + 1)).flatten = (Ls.take i).flatten ++ Ls.getD i [] := by
 rw [List.take_succ_eq_append_getElem h, List.flatten_append]
 simp [List.getD, List.getElem?_eq_getElem h]
theorem cat_le (Ls : List (List Int)) (i : Nat) : (Ls.take i).flatten.length ≤ Ls.flatten.length := by
 have : Ls.flatten = (Ls.take i).flatten ++ (Ls.drop i).flatten := by rw [← List.flatten_append, List.take_append_drop]
 rw [this, zL]; omega
theorem concat_any (g : Nat) (us : List Value) (Ls : List (List Int)) (k : Nat) (hk : Ls.length = k) (hk9 : k ≤ 9) (w : World) (h : Srcs w g us Ls) (ht : Ls.flatten.length ≤ 1000000) :
  Calls Tryz.prog 135 #[.slice (some ⟨g, 0, none⟩) k k] w fun r w' => Bts w Ls.flatten r w' := by
 have HH := hide h
 have HK := hide hk
 have HT := hide ht
 clear h hk ht
 unfold Bts
 go_enter Tryz.func135, Tryz.ntmps135
 go_wp2
 go_loopw [3, 11] (fun sv iv wr => ∃ (i T : Nat), sv = .int .i64 T ∧ iv = .int .i64 i ∧ i ≤ k ∧ Hid (T = (Ls.take i).flatten.length) ∧ T ≤ 1000000 ∧ w = wr) (fun _ iv _ => k - (intOf iv).toNat)
 case atStart => exact ⟨0, 0, rfl, rfl, Nat.zero_le _, rfl, Nat.zero_le _, rfl⟩
 case round =>
  obtain ⟨i, T, rfl, rfl, hi, hT, hTm, rfl⟩ := hrel
  by_cases hlt : i < k
  ·have hil : i < Ls.length := by rw [HK.out]; exact hlt
   obtain ⟨hc, ⟨C, ho⟩, hp⟩ := HH.out.2 i hil
   obtain ⟨ua, ucap, hu⟩ := own_shape ho
   rw [hu] at hc
   have hsn := congrArg List.length (cat_snoc hil)
   have hle := cat_le Ls (i + 1)
   rw [zL] at hsn
   generalize (Ls.getD i []).length = m at *
   have HT2 : Hid (T + m = (Ls.take (i + 1)).flatten.length) := by show _ = _; rw [hsn, ← hT.out]
   have hTm2 : T + m ≤ 1000000 := by have := HT.out; have := HT2.out; omega
   clear hsn hle ho hp hu hil hT
   go_wp2
   go_roundw
   case rel => exact ⟨i + 1, T + m, by go_num, by go_num, by omega, HT2, hTm2, by first | rfl | trivial⟩
   case measure => simp [intOf]; omega
  ·obtain rfl : i = k := by omega
   clear hT hlt hi
   go_wp2_with fail
   refine (grow_nil T w hTm).mono ?_
   rintro e w1 ⟨v1, rfl, o1, b1⟩
   have O1 := hide o1
   have B1 := hide b1
   clear o1 b1
   go_wp2
   go_loopw [6, 27] (fun av iv wr => ∃ (j : Nat), iv = .int .i64 j ∧ j ≤ i ∧ Hid (wr.ownsRow w.heap.size 5 1 av (Ls.take j).flatten.length ((Ls.take j).flatten.map (Value.int .u8))) ∧ Hid (Below w.heap.size w wr)) (fun _ iv _ => i - (intOf iv).toNat)
   case atStart => exact ⟨0, rfl, Nat.zero_le _, O1, B1⟩
   case round =>
    clear O1 B1
    obtain ⟨j, rfl, hj, OJ, BJ⟩ := hrel
    by_cases hlt : j < i
    ·have hil : j < Ls.length := by rw [HK.out]; exact hlt
     obtain ⟨hc, ⟨C, ho⟩, hp⟩ := HH.out.2 j hil
     have hcell : wr.cell? ⟨g, j, none⟩ = some (us.getD j undef) := by rw [BJ.out.cell (p := ⟨g, j, none⟩) (cell_lt hc)]; exact hc
     have OS := hide (own_below ho BJ.out zN)
     have hsn := cat_snoc hil
     have hle := cat_le Ls (j + 1)
     obtain ⟨EE, hEE⟩ : ∃ EE, Hid ((Ls.take j).flatten ++ Ls.getD j [] = EE) := ⟨_, rfl⟩
     have HEJ : Hid ((Ls.take (j + 1)).flatten = EE) := by rw [← hEE.out]; exact hsn
     rw [hsn, zL] at hle
     have hlen : (Ls.take j).flatten.length + (Ls.getD j []).length ≤ 1000000 := by have := HT.out; omega
     obtain ⟨ua, ucap, hu⟩ := own_shape ho
     rw [hu] at hcell OS
     have hsz : w.heap.size ≤ wr.heap.size := BJ.out.size
     clear hsn hle ho hc hu hil
     generalize (Ls.take j).flatten = LJ at *
     generalize Ls.getD j [] = LX at *
     obtain ⟨av, hav⟩ : ∃ av, Hid (u6 = av) := ⟨_, rfl⟩
     go_wp2_with (first | (at_builtin; refine wpList_join rfl _ _ rfl w.heap.size C u6 (.slice ua LX.length ucap) LJ LX EE hEE rfl rfl OJ.out OS.out hp hlen hsz ?_))
     intro v' w3 ho hg
     have RR : Hid (w3.ownsRow w.heap.size 5 1 v' (Ls.take (j + 1)).flatten.length ((Ls.take (j + 1)).flatten.map (Value.int .u8)) ∧ Below w.heap.size w w3) := by
      rw [HEJ.out]
      exact ⟨ho, BJ.out.grown hg hsz (fun j hj => (OJ.out.lt j hj).1)⟩
     clear ho hg
     go_wp2
     go_roundw
     case rel => exact ⟨j + 1, by go_num, by omega, RR.out.1, RR.out.2⟩
     case measure => simp [intOf]; omega
    ·obtain rfl : j = i := by omega
     have htk : Ls.take j = Ls := List.take_of_length_le (Nat.le_of_eq HK.out)
     rw [htk] at OJ
     go_wp2
     go_ret
     exact ⟨_, rfl, OJ.out, BJ.out⟩
open Go.RowKit Go.Wire1
def insP (v : Int) (x y : Nat) : List Int := if v = 1 then enc x ++ enc y else enc (8 * y + x)
def balP (v : Int) (x y : Nat) : List Int := if v = 1 then enc x ++ enc y else enc (8 * x + y)
def votP (v : Int) (st : Nat) (sm : Bool) : List Int := if v = 1 then votP1 st sm else votP2 st sm
def staP (v : Int) (kd row num : Nat) : List Int := (kd : Int) :: insP v row num
theorem insP_len (v : Int) (x y : Nat) : 0 < (insP v x y).length ∧ (insP v x y).length ≤ 20 := by
 unfold insP
 have := encF_pos x; have := enc_ten x; have := enc_ten y; have := encF_pos (8 * y + x); have := enc_ten (8 * y + x)
 split
 ·rw [zL]; omega
 ·omega
theorem balP_len (v : Int) (x y : Nat) : 0 < (balP v x y).length ∧ (balP v x y).length ≤ 20 := by
 unfold balP
 have := encF_pos x; have := enc_ten x; have := enc_ten y; have := encF_pos (8 * x + y); have := enc_ten (8 * x + y)
 split
 ·rw [zL]; omega
 ·omega
theorem staP_len (v : Int) (kd x y : Nat) : 0 < (staP v kd x y).length ∧ (staP v kd x y).length ≤ 21 := by
 unfold staP
 have := insP_len v x y
 rw [List.length_cons]; omega
theorem votP_len (v : Int) (st : Nat) (sm : Bool) : 0 < (votP v st sm).length ∧ (votP v st sm).length ≤ 2 := by
 unfold votP votP1 votP2
 split
 ·split <;> simp
 ·simp
def All2 (W : World) : List Value → List (List Int) → Prop
 | [], [] => True
 | u :: us, L :: Ls => (∃ C, W.ownsRow C 5 1 u L.length (L.map (Value.int .u8))) ∧ 0 < L.length ∧ All2 W us Ls
 | _, _ => False
theorem All2.at {W : World} : ∀ {us : List Value} {Ls : List (List Int)}, All2 W us Ls → us.length = Ls.length ∧ ∀ i, i < Ls.length → (∃ C, W.ownsRow C 5 1 (us.getD i undef) (Ls.getD i []).length ((Ls.getD i []).map (Value.int .u8))) ∧ 0 < (Ls.getD i []).length
 | [], [], _ => ⟨rfl, fun i hi => by simp at hi⟩
 | u :: us, L :: Ls, h => by
  obtain ⟨h1, h2, h3⟩ := h
  obtain ⟨e, r⟩ := All2.at h3
  refine ⟨by simp [e], fun i hi => ?_⟩
  cases i with
  | zero => exact ⟨h1, h2⟩
  | succ i => exact r i (by simpa using hi)
 | [], _ :: _, h => h.elim
 | _ :: _, [], h => h.elim
theorem srcs_new {W : World} {us : List Value} {Ls : List (List Int)} (T : TypeId) (h : All2 W us Ls) : Srcs (W.alloc (.cells us.toArray T)) W.heap.size us Ls := by
 obtain ⟨e, r⟩ := h.at
 refine ⟨e, fun i hi => ?_⟩
 obtain ⟨⟨C, ho⟩, hp⟩ := r i hi
 refine ⟨?_, ⟨C, own_below ho ((Below.refl _ _).alloc zN _) zN⟩, hp⟩
 rw [World.cell?_alloc_at _ _ _ _ rfl]
 simp [List.getD, List.getElem?_eq_getElem (show i < us.length by omega)]
theorem attP_len (v : Int) (sq : Nat) (dl : List Int) (hp0 : 0 < (packR v dl).length) (hp1 : (packR v dl).length ≤ 1000) : 0 < (attP v sq dl).length ∧ (attP v sq dl).length ≤ 1010 := by
 unfold attP; rw [zL]; have := enc_ten sq; omega
theorem lodP_len (v : Int) (c : Cm) (sq : Nat) (dl : List Int) (hz : chk v c = 0) (hp0 : 0 < (packR v dl).length) (hp1 : (packR v dl).length ≤ 1000) : 0 < (lodP v c sq dl).length ∧ (lodP v c sq dl).length ≤ 132300 := by
 unfold lodP; rw [zL]; have := encC_le hz; have := attP_len v sq dl hp0 hp1; omega
end Go.Proofs.YtibfdoggolkljaaGreatDoor
