/- Proved: for all bytes, every number of times and every mark DiskImages answers true: every Image, and what it shows, is the document's. No condition. -/
import Derived.Test.YtbgahocmabiaeabDkPimY
import Derived.Test.YtbgahocmabiaeabArgs
namespace Go.Proofs.Ytbgahocmabiaeab
open Go.ChangeShapes Go.WideShapes Go.ChangeAt Go.RowKit Go.Wire1 Go.MuLone
namespace diskImages

theorem below_of {w w' : World} {pb : Nat} {r : Option Nat} {E0 : Nat} (h : Tch pb r w w') (h1 : E0 ≤ pb) (h2 : ∀ k, r = some k → E0 ≤ k) (h3 : E0 ≤ w.heap.size) : Below E0 w w' := h.below h1 h2 h3
set_option maxHeartbeats 8000000 in
set_option maxRecDepth 100000 in
theorem walk_full (sa : Option Addr) (n cap : Nat) (l : List Int) (ti ai : Int) (w : World) (hs : Seg w sa n l) (hy : Byt l) (htop : n ≤ 140737488351232) (htt : I64 ti) (fn : Nat) (FL : List Int) (hFL : FL = fillL l ti) (hfn : FL.length = fn) (hbig : 4194304 < fn) :
    Calls Try.prog 4 #[.slice sa n cap, .int .i64 ti, .int .i64 ai] w fun e w' => e = .returned (.bool true) ∧ Below w.heap.size w w' := by
  have HS := hide hs
  have HY := hide hy
  have HFL := hide hFL
  have HFN := hide hfn
  clear hs hy hFL hfn
  have kc := fun (w : World) (C : Array Value) (n c : Nat) => Lib.run_convert_bytes_const (P := Try.prog) w 28 5 C n c Try.underlying28 Try.underlying5
  go_enter Try.func4, Try.ntmps4
  go_wp2_with fail
  refine (begun_any _ w.heap.size (Nat.le_refl _) (fun _ => 0) 0).mono ?_
  rintro e w1 ⟨pb, b0, rb0, ro0, rfl, hpb, hb1, _, P1⟩
  have c0 := P1.box.cell 0 _ rfl
  have HP1 := hide P1
  have B1 := hide hb1
  have hA2 : Below w1.heap.size w1 (w1.alloc (.cells #[.int .u8 120, .int .u8 121, .int .u8 122] 5 (3, 4))) := (Below.refl _ _).alloc (Nat.le_refl _) _
  have P2 := hide (P1.later hA2)
  have B2 := hide (B1.out.trans (hA2.mono B1.out.size))
  have SX := hide (seg_three w1 120 121 122 (3, 4))
  have HPL : Hid (pb < w1.heap.size) := P1.box.lt
  clear P1 hb1 hA2 hpb
  go_wp2_with fail
  refine (pimage_yes _ ro0 0 pb b0 rb0 _ _ _ _ [] [] [] w.heap.size P2.out 0 false 2 0 0 (some ⟨w1.heap.size, 0, none⟩) 3 3 3 [120, 121, 122] [120, 121, 122] SX.out (by intro z hz; simp only [List.mem_cons, List.not_mem_nil, or_false] at hz; omega) (by decide) ⟨by decide, by decide⟩ (fun x hx _ => ⟨by injection hx with hx; subst hx; have := HPL.out; show w1.heap.size ≠ pb; omega, fun e => by cases e⟩) (fillL_one (.inl (by decide))).symm rfl (by decide) (by decide)).mono ?_
  rintro e w2 ⟨rfl, b1, rb1, pv1, sv1, tv1, ⟨ro1, rv1, R1, _, P3⟩, T3⟩
  have HP3 := hide P3
  have B3' := hide (B2.out.trans (below_of T3 P2.out.low (fun k hk => by cases hk) B2.out.size))
  clear P3 T3 c0 kc
  go_wp2_with fail
  refine (looks_any _ ro1 0 pb b1 rb1 pv1 sv1 tv1 rv1 _ _ R1 w.heap.size HP3.out).mono ?_
  rintro e w3 ⟨rfl, hb3⟩
  have P3 := hide (HP3.out.later hb3)
  have B3 := hide (B3'.out.trans (hb3.mono B3'.out.size))
  have SG3 := hide (HS.out.below B3.out (Nat.le_refl _))
  have d1 := P3.out.box.cell 1 _ rfl
  obtain ⟨ssa, ssc, hsv⟩ := own_shape P3.out.r.so
  have e0 := P3.out.r.box.cell 0 _ rfl
  have e0' : w3.cell? ⟨rb1, 0, none⟩ = some (.slice ssa 2 ssc) := by rw [e0, hsv]; rfl
  have HSEP : Hid (∀ x, sa = some x → 0 < n → x.block ≠ pb ∧ rv1.ownBlock ≠ some x.block) := by
    show ∀ x, _
    intro x hx h0
    have h1 := HS.out.lt h0 hx
    exact ⟨by have := P3.out.low; omega, fun e => by have := (P3.out.room.lt _ e).1; omega⟩
  clear hb3 e0 hsv HP3 B3'
  go_wp2_with fail
  refine (pimage_full _ ro1 0 pb b1 rb1 pv1 sv1 tv1 rv1 [120, 121] [122] R1 w.heap.size P3.out 0 false ai 0 ti sa n cap fn l FL SG3.out HY.out htop htt HSEP.out HFL.out HFN.out hbig).mono ?_
  rintro e w4 ⟨rfl, ⟨ro2, rv2, R2, _, P4⟩, T4⟩
  have HP4 := hide P4
  have B4 := hide (B3.out.trans (below_of T4 P3.out.low (fun k hk => (P3.out.room.lt k hk).1) B3.out.size))
  clear P4 T4
  go_wp2_with fail
  refine (looks_any _ ro2 0 pb _ _ _ _ _ rv2 _ _ R2 w.heap.size HP4.out).mono ?_
  rintro e w5 ⟨rfl, hb5⟩
  have B5 := hide (B4.out.trans (hb5.mono B4.out.size))
  clear hb5
  go_wp2
  go_ret
  exact ⟨rfl, B5.out⟩

set_option maxHeartbeats 8000000 in
set_option maxRecDepth 100000 in
theorem walk_low (sa : Option Addr) (n cap : Nat) (l : List Int) (ti ai : Int) (w : World) (hs : Seg w sa n l) (hy : Byt l) (htop : n ≤ 140737488351232) (htt : I64 ti) (fn : Nat) (FL : List Int) (hFL : FL = fillL l ti) (hfn : FL.length = fn) (hbig : fn ≤ 4194304) (hz : ai < 0) :
    Calls Try.prog 4 #[.slice sa n cap, .int .i64 ti, .int .i64 ai] w fun e w' => e = .returned (.bool true) ∧ Below w.heap.size w w' := by
  have HZ : Hid (ai < 0) := hz
  clear hz
  have HS := hide hs
  have HY := hide hy
  have HFL := hide hFL
  have HFN := hide hfn
  clear hs hy hFL hfn
  have kc := fun (w : World) (C : Array Value) (n c : Nat) => Lib.run_convert_bytes_const (P := Try.prog) w 28 5 C n c Try.underlying28 Try.underlying5
  go_enter Try.func4, Try.ntmps4
  go_wp2_with fail
  refine (begun_any _ w.heap.size (Nat.le_refl _) (fun _ => 0) 0).mono ?_
  rintro e w1 ⟨pb, b0, rb0, ro0, rfl, hpb, hb1, _, P1⟩
  have c0 := P1.box.cell 0 _ rfl
  have HP1 := hide P1
  have B1 := hide hb1
  have hA2 : Below w1.heap.size w1 (w1.alloc (.cells #[.int .u8 120, .int .u8 121, .int .u8 122] 5 (3, 4))) := (Below.refl _ _).alloc (Nat.le_refl _) _
  have P2 := hide (P1.later hA2)
  have B2 := hide (B1.out.trans (hA2.mono B1.out.size))
  have SX := hide (seg_three w1 120 121 122 (3, 4))
  have HPL : Hid (pb < w1.heap.size) := P1.box.lt
  clear P1 hb1 hA2 hpb
  go_wp2_with fail
  refine (pimage_yes _ ro0 0 pb b0 rb0 _ _ _ _ [] [] [] w.heap.size P2.out 0 false 2 0 0 (some ⟨w1.heap.size, 0, none⟩) 3 3 3 [120, 121, 122] [120, 121, 122] SX.out (by intro z hz; simp only [List.mem_cons, List.not_mem_nil, or_false] at hz; omega) (by decide) ⟨by decide, by decide⟩ (fun x hx _ => ⟨by injection hx with hx; subst hx; have := HPL.out; show w1.heap.size ≠ pb; omega, fun e => by cases e⟩) (fillL_one (.inl (by decide))).symm rfl (by decide) (by decide)).mono ?_
  rintro e w2 ⟨rfl, b1, rb1, pv1, sv1, tv1, ⟨ro1, rv1, R1, _, P3⟩, T3⟩
  have HP3 := hide P3
  have B3' := hide (B2.out.trans (below_of T3 P2.out.low (fun k hk => by cases hk) B2.out.size))
  clear P3 T3 c0 kc
  go_wp2_with fail
  refine (looks_any _ ro1 0 pb b1 rb1 pv1 sv1 tv1 rv1 _ _ R1 w.heap.size HP3.out).mono ?_
  rintro e w3 ⟨rfl, hb3⟩
  have P3 := hide (HP3.out.later hb3)
  have B3 := hide (B3'.out.trans (hb3.mono B3'.out.size))
  have SG3 := hide (HS.out.below B3.out (Nat.le_refl _))
  have d1 := P3.out.box.cell 1 _ rfl
  obtain ⟨ssa, ssc, hsv⟩ := own_shape P3.out.r.so
  have e0 := P3.out.r.box.cell 0 _ rfl
  have e0' : w3.cell? ⟨rb1, 0, none⟩ = some (.slice ssa 2 ssc) := by rw [e0, hsv]; rfl
  have HSEP : Hid (∀ x, sa = some x → 0 < n → x.block ≠ pb ∧ rv1.ownBlock ≠ some x.block) := by
    show ∀ x, _
    intro x hx h0
    have h1 := HS.out.lt h0 hx
    exact ⟨by have := P3.out.low; omega, fun e => by have := (P3.out.room.lt _ e).1; omega⟩
  clear hb3 e0 hsv HP3 B3'
  go_wp2_with fail
  refine (pimage_low _ ro1 0 pb b1 rb1 pv1 sv1 tv1 rv1 [120, 121] [122] R1 w.heap.size P3.out 0 false ai 0 ti sa n cap fn l FL SG3.out HY.out htop htt HSEP.out HFL.out HFN.out hbig (by have := HZ.out; omega)).mono ?_
  rintro e w4 ⟨rfl, ⟨ro2, rv2, R2, _, P4⟩, T4⟩
  have HP4 := hide P4
  have B4 := hide (B3.out.trans (below_of T4 P3.out.low (fun k hk => (P3.out.room.lt k hk).1) B3.out.size))
  clear P4 T4
  go_wp2_with fail
  refine (looks_any _ ro2 0 pb _ _ _ _ _ rv2 _ _ R2 w.heap.size HP4.out).mono ?_
  rintro e w5 ⟨rfl, hb5⟩
  have B5 := hide (B4.out.trans (hb5.mono B4.out.size))
  clear hb5
  go_wp2
  go_ret
  exact ⟨rfl, B5.out⟩

set_option maxHeartbeats 8000000 in
set_option maxRecDepth 100000 in
theorem walk_high (sa : Option Addr) (n cap : Nat) (l : List Int) (ti ai : Int) (w : World) (hs : Seg w sa n l) (hy : Byt l) (htop : n ≤ 140737488351232) (htt : I64 ti) (fn : Nat) (FL : List Int) (hFL : FL = fillL l ti) (hfn : FL.length = fn) (hbig : fn ≤ 4194304) (hz : ¬ ai < 0) (hz2 : (fn : Int) < ai) :
    Calls Try.prog 4 #[.slice sa n cap, .int .i64 ti, .int .i64 ai] w fun e w' => e = .returned (.bool true) ∧ Below w.heap.size w w' := by
  have HZ : Hid (¬ ai < 0 ∧ (fn : Int) < ai) := ⟨hz, hz2⟩
  clear hz hz2
  have HS := hide hs
  have HY := hide hy
  have HFL := hide hFL
  have HFN := hide hfn
  clear hs hy hFL hfn
  have kc := fun (w : World) (C : Array Value) (n c : Nat) => Lib.run_convert_bytes_const (P := Try.prog) w 28 5 C n c Try.underlying28 Try.underlying5
  go_enter Try.func4, Try.ntmps4
  go_wp2_with fail
  refine (begun_any _ w.heap.size (Nat.le_refl _) (fun _ => 0) 0).mono ?_
  rintro e w1 ⟨pb, b0, rb0, ro0, rfl, hpb, hb1, _, P1⟩
  have c0 := P1.box.cell 0 _ rfl
  have HP1 := hide P1
  have B1 := hide hb1
  have hA2 : Below w1.heap.size w1 (w1.alloc (.cells #[.int .u8 120, .int .u8 121, .int .u8 122] 5 (3, 4))) := (Below.refl _ _).alloc (Nat.le_refl _) _
  have P2 := hide (P1.later hA2)
  have B2 := hide (B1.out.trans (hA2.mono B1.out.size))
  have SX := hide (seg_three w1 120 121 122 (3, 4))
  have HPL : Hid (pb < w1.heap.size) := P1.box.lt
  clear P1 hb1 hA2 hpb
  go_wp2_with fail
  refine (pimage_yes _ ro0 0 pb b0 rb0 _ _ _ _ [] [] [] w.heap.size P2.out 0 false 2 0 0 (some ⟨w1.heap.size, 0, none⟩) 3 3 3 [120, 121, 122] [120, 121, 122] SX.out (by intro z hz; simp only [List.mem_cons, List.not_mem_nil, or_false] at hz; omega) (by decide) ⟨by decide, by decide⟩ (fun x hx _ => ⟨by injection hx with hx; subst hx; have := HPL.out; show w1.heap.size ≠ pb; omega, fun e => by cases e⟩) (fillL_one (.inl (by decide))).symm rfl (by decide) (by decide)).mono ?_
  rintro e w2 ⟨rfl, b1, rb1, pv1, sv1, tv1, ⟨ro1, rv1, R1, _, P3⟩, T3⟩
  have HP3 := hide P3
  have B3' := hide (B2.out.trans (below_of T3 P2.out.low (fun k hk => by cases hk) B2.out.size))
  clear P3 T3 c0 kc
  go_wp2_with fail
  refine (looks_any _ ro1 0 pb b1 rb1 pv1 sv1 tv1 rv1 _ _ R1 w.heap.size HP3.out).mono ?_
  rintro e w3 ⟨rfl, hb3⟩
  have P3 := hide (HP3.out.later hb3)
  have B3 := hide (B3'.out.trans (hb3.mono B3'.out.size))
  have SG3 := hide (HS.out.below B3.out (Nat.le_refl _))
  have d1 := P3.out.box.cell 1 _ rfl
  obtain ⟨ssa, ssc, hsv⟩ := own_shape P3.out.r.so
  have e0 := P3.out.r.box.cell 0 _ rfl
  have e0' : w3.cell? ⟨rb1, 0, none⟩ = some (.slice ssa 2 ssc) := by rw [e0, hsv]; rfl
  have HSEP : Hid (∀ x, sa = some x → 0 < n → x.block ≠ pb ∧ rv1.ownBlock ≠ some x.block) := by
    show ∀ x, _
    intro x hx h0
    have h1 := HS.out.lt h0 hx
    exact ⟨by have := P3.out.low; omega, fun e => by have := (P3.out.room.lt _ e).1; omega⟩
  clear hb3 e0 hsv HP3 B3'
  go_wp2_with fail
  refine (pimage_high _ ro1 0 pb b1 rb1 pv1 sv1 tv1 rv1 [120, 121] [122] R1 w.heap.size P3.out 0 false ai 0 ti sa n cap fn l FL SG3.out HY.out htop htt HSEP.out HFL.out HFN.out hbig (by have := HZ.out; omega) (by have := HZ.out; omega)).mono ?_
  rintro e w4 ⟨rfl, ⟨ro2, rv2, R2, _, P4⟩, T4⟩
  have HP4 := hide P4
  have B4 := hide (B3.out.trans (below_of T4 P3.out.low (fun k hk => (P3.out.room.lt k hk).1) B3.out.size))
  clear P4 T4
  go_wp2_with fail
  refine (looks_any _ ro2 0 pb _ _ _ _ _ rv2 _ _ R2 w.heap.size HP4.out).mono ?_
  rintro e w5 ⟨rfl, hb5⟩
  have B5 := hide (B4.out.trans (hb5.mono B4.out.size))
  clear hb5
  go_wp2
  go_ret
  exact ⟨rfl, B5.out⟩

set_option maxHeartbeats 8000000 in
set_option maxRecDepth 100000 in
theorem walk_yes (sa : Option Addr) (n cap : Nat) (l : List Int) (ti  : Int) (w : World) (hs : Seg w sa n l) (hy : Byt l) (htop : n ≤ 140737488351232) (htt : I64 ti) (fn : Nat) (FL : List Int) (hFL : FL = fillL l ti) (hfn : FL.length = fn) (kk : Nat) (hbig : fn ≤ 4194304) (hkk : kk ≤ fn) :
    Calls Try.prog 4 #[.slice sa n cap, .int .i64 ti, .int .i64 (kk : Int)] w fun e w' => e = .returned (.bool true) ∧ Below w.heap.size w w' := by
  have HS := hide hs
  have HY := hide hy
  have HFL := hide hFL
  have HFN := hide hfn
  clear hs hy hFL hfn
  have kc := fun (w : World) (C : Array Value) (n c : Nat) => Lib.run_convert_bytes_const (P := Try.prog) w 28 5 C n c Try.underlying28 Try.underlying5
  go_enter Try.func4, Try.ntmps4
  go_wp2_with fail
  refine (begun_any _ w.heap.size (Nat.le_refl _) (fun _ => 0) 0).mono ?_
  rintro e w1 ⟨pb, b0, rb0, ro0, rfl, hpb, hb1, _, P1⟩
  have c0 := P1.box.cell 0 _ rfl
  have HP1 := hide P1
  have B1 := hide hb1
  have hA2 : Below w1.heap.size w1 (w1.alloc (.cells #[.int .u8 120, .int .u8 121, .int .u8 122] 5 (3, 4))) := (Below.refl _ _).alloc (Nat.le_refl _) _
  have P2 := hide (P1.later hA2)
  have B2 := hide (B1.out.trans (hA2.mono B1.out.size))
  have SX := hide (seg_three w1 120 121 122 (3, 4))
  have HPL : Hid (pb < w1.heap.size) := P1.box.lt
  clear P1 hb1 hA2 hpb
  go_wp2_with fail
  refine (pimage_yes _ ro0 0 pb b0 rb0 _ _ _ _ [] [] [] w.heap.size P2.out 0 false 2 0 0 (some ⟨w1.heap.size, 0, none⟩) 3 3 3 [120, 121, 122] [120, 121, 122] SX.out (by intro z hz; simp only [List.mem_cons, List.not_mem_nil, or_false] at hz; omega) (by decide) ⟨by decide, by decide⟩ (fun x hx _ => ⟨by injection hx with hx; subst hx; have := HPL.out; show w1.heap.size ≠ pb; omega, fun e => by cases e⟩) (fillL_one (.inl (by decide))).symm rfl (by decide) (by decide)).mono ?_
  rintro e w2 ⟨rfl, b1, rb1, pv1, sv1, tv1, ⟨ro1, rv1, R1, _, P3⟩, T3⟩
  have HP3 := hide P3
  have B3' := hide (B2.out.trans (below_of T3 P2.out.low (fun k hk => by cases hk) B2.out.size))
  clear P3 T3 c0 kc
  go_wp2_with fail
  refine (looks_any _ ro1 0 pb b1 rb1 pv1 sv1 tv1 rv1 _ _ R1 w.heap.size HP3.out).mono ?_
  rintro e w3 ⟨rfl, hb3⟩
  have P3 := hide (HP3.out.later hb3)
  have B3 := hide (B3'.out.trans (hb3.mono B3'.out.size))
  have SG3 := hide (HS.out.below B3.out (Nat.le_refl _))
  have d1 := P3.out.box.cell 1 _ rfl
  obtain ⟨ssa, ssc, hsv⟩ := own_shape P3.out.r.so
  have e0 := P3.out.r.box.cell 0 _ rfl
  have e0' : w3.cell? ⟨rb1, 0, none⟩ = some (.slice ssa 2 ssc) := by rw [e0, hsv]; rfl
  have HSEP : Hid (∀ x, sa = some x → 0 < n → x.block ≠ pb ∧ rv1.ownBlock ≠ some x.block) := by
    show ∀ x, _
    intro x hx h0
    have h1 := HS.out.lt h0 hx
    exact ⟨by have := P3.out.low; omega, fun e => by have := (P3.out.room.lt _ e).1; omega⟩
  clear hb3 e0 hsv HP3 B3'
  go_wp2_with fail
  refine (pimage_yes _ ro1 0 pb b1 rb1 pv1 sv1 tv1 rv1 [120, 121] [122] R1 w.heap.size P3.out 0 false kk 0 ti sa n cap fn l FL SG3.out HY.out htop htt HSEP.out HFL.out HFN.out hbig hkk).mono ?_
  rintro e w4 ⟨rfl, b2, rb2, pv2, sv2, tv2, ⟨ro2, rv2, R2, _, P4⟩, T4⟩
  have HP4 := hide P4
  have B4 := hide (B3.out.trans (below_of T4 P3.out.low (fun k hk => (P3.out.room.lt k hk).1) B3.out.size))
  clear P4 T4
  go_wp2_with fail
  refine (looks_any _ ro2 0 pb _ _ _ _ _ rv2 _ _ R2 w.heap.size HP4.out).mono ?_
  rintro e w5 ⟨rfl, hb5⟩
  have B5 := hide (B4.out.trans (hb5.mono B4.out.size))
  clear hb5
  go_wp2
  go_ret
  exact ⟨rfl, B5.out⟩

theorem walk (sa : Option Addr) (n cap : Nat) (l : List Int) (ti ai : Int) (w : World) (hs : Seg w sa n l) (hy : Byt l) (hnc : n ≤ cap) (hcap : cap ≤ 140737488351232) (htt : I64 ti) :
    Calls Try.prog 4 #[.slice sa n cap, .int .i64 ti, .int .i64 ai] w fun e w' => e = .returned (.bool true) ∧ Below w.heap.size w w' := by
  by_cases h1 : 4194304 < (fillL l ti).length
  · exact walk_full sa n cap l ti ai w hs hy (by omega) htt _ _ rfl rfl h1
  by_cases h2 : ai < 0
  · exact walk_low sa n cap l ti ai w hs hy (by omega) htt _ _ rfl rfl (by omega) h2
  by_cases h3 : ((fillL l ti).length : Int) < ai
  · exact walk_high sa n cap l ti ai w hs hy (by omega) htt _ _ rfl rfl (by omega) h2 h3
  obtain ⟨kk, rfl⟩ := Int.eq_ofNat_of_zero_le (show 0 ≤ ai by omega)
  exact walk_yes sa n cap l ti w hs hy (by omega) htt _ _ rfl rfl kk (by omega) (by omega)

set_option maxRecDepth 100000 in
/-- For every argument and every world. -/
theorem contract (H : Type) (enc : TypeId × Value → H) (W : World) (base : Nat) (args : Array Value) (ds gs : List (DataW H)) (before : List MemPlace)
    (hval : ∀ (j : Nat) t v, Try.f4.params[j]? = some t → args[j]? = some v → Value.okWide Try.prog W .any base t v)
    (hW : DataW.Whole enc Try.prog Try.f4.params.toList Rows.diskImagesSpec.vars false W args.toList ds gs before)
    (hsz : (DataW.weightsEach Try.prog (Try.f4.params.toList ++ Rows.diskImagesSpec.plain.varTypes Try.prog) (ds ++ gs)).all (· ≤ reachBytes) = true) :
    Calls Try.prog 4 args W fun e W' => ∃ v, e = .returned v ∧ Rows.diskImagesSpec.post enc Try.prog Try.f4 false true false false W args v W' := by
  have hW' := hW
  obtain ⟨p, q, hA0, hV, rfl, hfz, hnd⟩ := hW
  have hA : DataW.TrodAll enc Try.prog W 0 (fun _ => true) true Try.f4.params.toList args.toList ds p := hA0
  rw [Try.params4] at hA hval hsz
  obtain ⟨v0, vs0, d0, ds0, p0, q0, hargs, rfl, rfl, h0, tr0⟩ := trodAll_cons hA
  obtain ⟨v1, vs1, d1, ds1, p1, q1, rfl, rfl, rfl, h1, tr1⟩ := trodAll_cons tr0
  obtain ⟨v2, vs2, d2, ds2, p2, q2, rfl, rfl, rfl, h2, tr2⟩ := trodAll_cons tr1
  obtain ⟨rfl, rfl, rfl⟩ := trodAll_nil tr2
  obtain rfl : args = #[v0, v1, v2] := by cases args; simp_all
  obtain ⟨rfl, rfl⟩ := trodVars_none hV
  obtain ⟨a0, n0, cap0, rfl⟩ := okWide_slice Try.underlying28 (hval 0 28 v0 rfl rfl)
  have k0 := h0
  have lt0 : ∀ x ∈ p0, x.block < W.heap.size := by obtain ⟨m, hm⟩ := k0; exact DataW.trod_lt m _ _ _ hm
  obtain ⟨fuel0, hf0⟩ := h0
  obtain ⟨l0, hseg0, hbyt0, hcap0, hdat0⟩ := open_bytes hf0
  obtain ⟨y1, rfl, rfl, rfl, w1⟩ := open_int Try.underlying3 (hval 1 3 v1 rfl rfl) h1
  have b1 := bounds_i64 w1
  obtain ⟨y2, rfl, rfl, rfl, w2⟩ := open_int Try.underlying3 (hval 2 3 v2 rfl rfl) h2
  have b2 := bounds_i64 w2
  have hreach0 : cap0 ≤ 140737488351232 := by
    rcases hdat0 with ⟨_, _, h⟩ | ⟨elems, spare, hd, he, hc⟩
    · omega
    · have hs := sized_slice hsz (j := 0) (t := 28) (e := 5) (elems := elems) (spare := spare) rfl (by rw [show d0 = _ from hd]; rfl) Try.underlying28
      rw [bytes5] at hs
      simp only [reachBytes] at hs
      omega
  clear hA0
  refine (walk a0 n0 cap0 l0 y1 y2 W hseg0 hbyt0 hcap0 hreach0 b1).mono fun e W' ⟨he, bel⟩ => ?_
  subst he
  exact ⟨_, rfl, _, _, _, [], _, [], hW', trodAll_mk1 (shut_bool Try.underlying4 _), (trodAll_cons_mk (Below.trod laidOut (by kernel_rfl) (of_decide_eq_true (by kernel_rfl)) k0 bel lt0) (trodAll_cons_mk (shut_int Try.underlying3 w1) (trodAll_cons_mk (shut_int Try.underlying3 w2) trodAll_mk0))), rfl, bel.frame _, fun h => by cases h⟩

set_option maxRecDepth 100000 in
theorem lifted (os : Os) (started : os.Started) (H : Type) (enc : TypeId × Value → H) :
    ReturnsInHanded {} Try.checked os 4 .any (Rows.diskImagesSpec.pre6 enc Try.prog Try.f4 Rows.diskImagesRow.domain false) (Rows.diskImagesSpec.post enc Try.prog Try.f4 false true false false) := by
  refine returnsInHanded_of_change_sized (C := Try.checked) own started (by kernel_rfl) Try.func4
    (ChangeSpec.witness6 (enc := enc) (C := Try.checked) false ⟨#[], #[.slice none 0 0, .int .i64 0, .int .i64 0], []⟩ 8 (by kernel_rfl) (by kernel_rfl) (by kernel_rfl) (by kernel_rfl)) ?_
  intro W base args ds gs before hval hW _ hsz _
  exact contract H enc W base args ds gs before hval hW hsz

end diskImages
theorem diskImages_proved : Rows.DiskImagesSaid :=
  OpenClaim.holds_of_wide 4 Try.f4 rfl rfl rfl rfl rfl rfl rfl ⟨rfl, rfl, rfl, rfl, rfl⟩ rfl rfl rfl rfl rfl (by kernel_rfl) Try.func4 (by kernel_rfl)
    (of_decide_eq_true (by kernel_rfl)) (by unfold Func.isWrapper; first | (rw [if_pos (by decide +kernel)]; kernel_rfl) | (rw [if_neg (by decide +kernel)]; exact ⟨rfl, rfl⟩))
    (fun os started H enc _ => diskImages.lifted os started H enc)
#print axioms diskImages_proved
end Go.Proofs.Ytbgahocmabiaeab
