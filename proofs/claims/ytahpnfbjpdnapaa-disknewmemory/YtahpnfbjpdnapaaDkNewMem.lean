/- Proved: for every script DiskNewMemory answers true: every list that Look hands out is the caller's own. No condition. -/
import Derived.Test.YtahpnfbjpdnapaaDkWhole
import Derived.Test.YtahpnfbjpdnapaaDkShow
import Derived.Test.YtahpnfbjpdnapaaDkArgs
import Derived.Test.YtahpnfbjpdnapaaDkRMeth
namespace Go.Proofs.Ytahpnfbjpdnapaa
open Go.ChangeShapes Go.WideShapes Go.ChangeAt Go.RowKit Go.Wire1 Go.MuLone
namespace diskNewMemory

/-- The parts that the disk's blocks play. -/
def Rl (ro : Nat → Nat) (b : Nat) (pv : Value) (E0 : Nat) : Prop := ro b = 5 ∧ (∀ k, pv.ownBlock = some k → ro k = 5) ∧ ∀ k, k < E0 → ro k = 0
section
variable {w w1 w' : World} {ro ro1 : Nat → Nat} {b bp : Nat} {pv pv1 vL vN : Value} {l l1 : List Int} {m m1 E0 : Nat} {bs : List KP}
theorem step (hd : Dsk 0 w b pv l m E0) (hr : Rl ro b pv E0) (hb : Bd w ro bp vL vN bs) (hE : E0 ≤ w.heap.size) (k : Dst 0 w w1 b pv pv1 l1 m1 E0) :
    ∃ ro1, Rl ro1 b pv1 E0 ∧ Bd w1 ro1 bp vL vN bs ∧ ∀ k, w1.heap.size ≤ k → ro1 k = 0 := by
  have z := k.tch.size
  obtain ⟨rf, hrf⟩ : ∃ rf : Nat → Nat, rf = fun k => if k < w.heap.size then ro k else if k < w1.heap.size then 5 else 0 := ⟨_, rfl⟩
  have ag : ∀ k, k < w.heap.size → rf k = ro k := fun k hk => by rw [hrf]; exact if_pos hk
  refine ⟨rf, ⟨(ag b hd.box.lt).trans hr.1, fun j hj => ?_, fun j hj => (ag j (by omega)).trans (hr.2.2 j hj)⟩, (hb.rerole ag).frame z (fun j hj h1 h2 => ?_), fun j hj => ?_⟩
  · rcases k.lat with e | e
    · have e2 : pv.ownBlock = some j := by rw [← e]; exact hj
      exact (ag j (hd.own.lt j e2).2).trans (hr.2.1 j e2)
    · have h1 := e j hj
      have h2 := (k.dsk.own.lt j hj).2
      rw [hrf]; show (if _ then _ else _) = _; rw [if_neg (by omega), if_pos h2]
  · have e := ag j hj
    exact k.tch.block j hj (fun e2 => by have := hr.1; rw [e2] at h2 e; omega) (fun e2 => by have := hr.2.1 j e2.symm; omega)
  · rw [hrf]; show (if _ then _ else _) = _; rw [if_neg (by omega), if_neg (by omega)]
end
theorem own0 {w : World} {v : Value} {n : Nat} {xs : List Value} {B : Nat} (h : w.ownsRow B 5 1 v n xs) : w.ownsRow 0 5 1 v n xs := own_base h (Nat.zero_le _)

set_option maxHeartbeats 8000000 in
set_option maxRecDepth 100000 in
theorem walk (a : Option Addr) (n cap : Nat) (ops : List OpD) (w : World) (hO : OSeg w a n ops) :
    Calls Try.prog 3 #[.slice a n cap] w fun e w' => e = .returned (.bool true) ∧ Below w.heap.size w w' := by
  have HO := hide hO
  have hn63 : n ≤ 2199023255552 := by have := hO.top; omega
  clear hO
  go_enter Try.func3, Try.ntmps3
  go_wp2_with fail
  refine (abc_any _ w.heap.size (Nat.le_refl _)).mono ?_
  rintro e w1 ⟨b, pv, rfl, hbl, d1, hb1, hpv⟩
  obtain ⟨W1, hW1⟩ : ∃ W1, W1 = w1.alloc (.cells #[.slice none 0 0, .slice none 0 0] 29) := ⟨_, rfl⟩
  have hA : Below w1.heap.size w1 W1 := by rw [hW1]; exact (Below.refl _ _).alloc (Nat.le_refl _) _
  obtain ⟨bp, hbp⟩ : ∃ bp, bp = w1.heap.size := ⟨_, rfl⟩
  have hz := hb1.size
  have D1 := hide (d1.later hA)
  have B1 := hide (hb1.trans (hA.mono hz))
  have RL1 : Hid (∃ ro : Nat → Nat, Rl ro b pv w.heap.size ∧ Bd W1 ro bp (.slice none 0 0) (.slice none 0 0) []) := by
    have hbb := d1.box.lt
    refine ⟨fun k => if k < w.heap.size then 0 else if k < w1.heap.size then 5 else 1, ⟨?_, fun k hk => ?_, fun k hk => if_pos hk⟩, ⟨?_, World.ownsRow_nil _ _ _ _, World.ownsRow_nil _ _ _ _, (fun k hk => by cases hk), ?_, (fun k hk => by cases hk), (fun k hk => by cases hk), (fun k hk => by cases hk)⟩⟩
    · show (if _ then _ else _) = _
      rw [if_neg (by omega), if_pos hbb]
    · have h1 := hpv k hk
      have h2 := (d1.own.lt k hk).2
      show (if _ then _ else _) = _
      rw [if_neg (by omega), if_pos h2]
    · rw [hW1, hbp]; exact blk_new w1 _ [.slice none 0 0, .slice none 0 0]
    · show (if _ then _ else _) = _
      rw [if_neg (by omega), if_neg (by omega)]
  have HW1 := hide hW1
  have HBP := hide hbp
  clear d1 hb1 hbl hpv hA hW1 hbp hz
  go_wp2
  rw [← HW1.out, ← HBP.out]
  go_loopw [5, 6] (fun sv iv wr => ∃ (i sp : Nat) (ro : Nat → Nat) (pv : Value) (l : List Int) (m : Nat) (vL vN : Value) (bs : List KP), sv = .int .i64 (sp : Int) ∧ iv = .int .i64 (i : Int) ∧ i ≤ n ∧ i ≤ 200 ∧ sp ≤ 16777216 ∧ Hid (bs.length ≤ 4 * i) ∧ Hid (Dsk 0 wr b pv l m w.heap.size) ∧ Hid (Rl ro b pv w.heap.size) ∧ Hid (Bd wr ro bp vL vN bs) ∧ Hid (Below w.heap.size w wr)) (fun _ iv _ => n - (intOf iv).toNat)
  case atStart =>
    obtain ⟨ro, h1, h2⟩ := RL1.out
    exact ⟨0, 0, ro, pv, _, _, _, _, [], rfl, rfl, Nat.zero_le _, by omega, by omega, Nat.zero_le _, D1, h1, h2, B1⟩
  case round =>
    clear D1 B1 RL1
    obtain ⟨i, sp, ro, pv, l, m, vL, vN, bs, rfl, rfl, hi, hi2, hsp, HL, HD, HR, HBD, HB⟩ := hrel
    by_cases hlt : i < n
    · by_cases hlt2 : i < 200
      · by_cases hlt3 : sp < 12582912
        · obtain ⟨ab, ao, rfl, hat⟩ := HO.out.at_ (by omega)
          have AT := (hat i hlt).below HB.out (Nat.le_refl _)
          have KO := hide ((HO.out.ok i hlt).below HB.out (Nat.le_refl _))
          generalize ops.getD i opdZ = o at AT KO
          clear hat
          obtain ⟨k0, k1, k2, k3, k4, k5⟩ := AT
          obtain ⟨kd, sc, ai, xi, ti, da, dn, dc, dl⟩ := o
          simp only at k0 k1 k2 k3 k4 k5
          have q7 : (i : Int) < (n : Int) := by omega
          have q8 : (i : Int) < 200 := by omega
          have q9 : (sp : Int) < 12582912 := by omega
          go_wp2_with fail
          refine (does_any _ b pv l m _ ⟨kd, sc, ai, xi, ti, da, dn, dc, dl⟩ HD.out KO.out).mono ?_
          rintro e w1 ⟨rfl, pv1, k⟩
          obtain ⟨L1, hL1⟩ : ∃ L1, L1 = dNew ⟨kd, sc, ai, xi, ti, da, dn, dc, dl⟩ l m := ⟨_, rfl⟩
          obtain ⟨m1, hm1⟩ : ∃ m1, m1 = dMark ⟨kd, sc, ai, xi, ti, da, dn, dc, dl⟩ l m := ⟨_, rfl⟩
          rw [← hL1, ← hm1] at k
          obtain ⟨ro1, hr1, hbd1, hnew⟩ := step HD.out HR.out HBD.out HB.out.size k
          have D1 := hide k.dsk
          have B1 := hide (HB.out.trans (k.below HD.out))
          have R1 := hide hr1
          have BD1 := hide hbd1
          have N1 := hide hnew
          have htp : L1.length ≤ 4194304 := k.dsk.top
          generalize dErr ⟨kd, sc, ai, xi, ti, da, dn, dc, dl⟩ l m = er
          clear k hr1 hbd1 hnew hL1 hm1 k0 k1 k2 k3 k4 k5 KO HD HR HBD HB
          go_wp2_with fail
          refine (look_any _ b pv1 L1 m1 _ D1.out).mono ?_
          rintro e w2 ⟨v2, rfl, ho2, hb2⟩
          have V2 := hide ho2
          have B12 := hide hb2
          obtain ⟨ln, hln⟩ : ∃ ln, L1.length = ln := ⟨_, rfl⟩
          have HLN := hide hln
          rw [hln] at V2 ho2 htp
          obtain ⟨va, vc, rfl⟩ := own_shape ho2
          clear ho2 hb2 hln
          go_wp2_with fail
          refine (look_any _ b pv1 L1 m1 _ (D1.out.later B12.out)).mono ?_
          rintro e w3 ⟨v3, rfl, ho3, hb3⟩
          have V3 := hide ho3
          have B23 := hide hb3
          rw [HLN.out] at V3 ho3
          obtain ⟨vd, ve, rfl⟩ := own_shape ho3
          clear ho3 hb3
          have S2 : Hid (Seg w2 va ln L1) := by
            obtain ⟨a9, c9, e9, _, _, s9⟩ := seg_own (l := L1) (by rw [HLN.out]; exact V2.out)
            rw [HLN.out] at e9 s9; cases e9; exact s9
          go_wp2_with fail
          refine (bytes_any va ln vc L1 _ (S2.out.below B23.out (Nat.le_refl _)) (by omega)).mono ?_
          rintro e w4 ⟨v4, rfl, ho4, hb4⟩
          have V4 := hide ho4
          have B34 := hide hb4
          rw [HLN.out] at V4 ho4
          obtain ⟨vf, vg, rfl⟩ := own_shape ho4
          clear ho4 hb4
          have B24 := hide (B23.out.trans (B34.out.mono B23.out.size))
          have B14 := hide (B12.out.trans (B24.out.mono B12.out.size))
          have z1 : Hid (w1.heap.size ≤ w2.heap.size ∧ w2.heap.size ≤ w3.heap.size ∧ w3.heap.size ≤ w4.heap.size) := ⟨B12.out.size, B23.out.size, B34.out.size⟩
          have t2 : Hid (∀ k, (Value.slice va ln vc).ownBlock = some k → w1.heap.size ≤ k ∧ k < w2.heap.size) := fun k hk => V2.out.lt k hk
          have t3 : Hid (∀ k, (Value.slice vd ln ve).ownBlock = some k → w2.heap.size ≤ k ∧ k < w3.heap.size) := fun k hk => V3.out.lt k hk
          have t4 : Hid (∀ k, (Value.slice vf ln vg).ownBlock = some k → w3.heap.size ≤ k ∧ k < w4.heap.size) := fun k hk => V4.out.lt k hk
          have U2 := hide (own0 (own_below V2.out B24.out (Nat.le_refl _)))
          have U3 := hide (own0 (own_below V3.out B34.out (Nat.le_refl _)))
          have U4 := hide (own0 V4.out)
          have D4 := hide (D1.out.later B14.out)
          have BD4 := hide (BD1.out.later B14.out)
          have B04 := hide (B1.out.trans (B14.out.mono B1.out.size))
          have hE1 : Hid (w.heap.size ≤ w1.heap.size) := B1.out.size
          clear V2 V3 V4 B12 B23 B34 B24 B14 S2 D1 BD1 B1
          have hsum : sp + ln ≤ 16777216 := by omega
          go_wp2_with fail
          refine (keep_any (L := L1) BD4.out _ U2.out (fun k hk => N1.out k (t2.out k hk).1) (by omega) (by have := HL.out; omega)).mono ?_
          rintro e w5 ⟨rfl, ro5, vL5, vN5, ks5, bd5, hk5, ag5, hz5, kp5, o5⟩
          have B45 : Hid (Below w.heap.size w4 w5) := ⟨o5.1, o5.2.1, o5.2.2, hz5, fun k hk => kp5 k (by have := hE1.out; have := z1.out; omega) (fun e => by have := (t2.out k e).1; have := hE1.out; omega) (.inl (R1.out.2.2 k hk))⟩
          have ne2 : ∀ k, ro1 k = 5 → (Value.slice va ln vc).ownBlock ≠ some k := fun k h e => by have := N1.out k (t2.out k e).1; omega
          have D5 : Hid (Dsk 0 w5 b pv1 L1 m1 w.heap.size) := D4.out.on (kp5 b D4.out.box.lt (ne2 b R1.out.1) (.inr (by rw [R1.out.1]; omega))) (fun j hj => kp5 j (D4.out.own.lt j hj).2 (ne2 j (R1.out.2.1 j hj)) (.inr (by rw [R1.out.2.1 j hj]; omega)))
          have R5 : Hid (Rl ro5 b pv1 w.heap.size) := ⟨(ag5 b D4.out.box.lt (ne2 b R1.out.1)).trans R1.out.1, fun j hj => (ag5 j (D4.out.own.lt j hj).2 (ne2 j (R1.out.2.1 j hj))).trans (R1.out.2.1 j hj), fun j hj => (ag5 j (by have := hE1.out; have := z1.out; omega) (fun e => by have := (t2.out j e).1; have := hE1.out; omega)).trans (R1.out.2.2 j hj)⟩
          have U35 : Hid (w5.ownsRow 0 5 1 (.slice vd ln ve) ln (L1.map (Value.int .u8))) := own_other U3.out (fun j hj => kp5 j (by have := (t3.out j hj).2; have := z1.out; omega) (fun e => by have := (t2.out j e).2; have := (t3.out j hj).1; omega) (.inl (N1.out j (by have := (t3.out j hj).1; have := z1.out; omega))))
          have U45 : Hid (w5.ownsRow 0 5 1 (.slice vf ln vg) ln (L1.map (Value.int .u8))) := own_other U4.out (fun j hj => kp5 j (t4.out j hj).2 (fun e => by have := (t2.out j e).2; have := (t4.out j hj).1; have := z1.out; omega) (.inl (N1.out j (by have := (t4.out j hj).1; have := z1.out; omega))))
          have N3 : Hid (∀ k, (Value.slice vd ln ve).ownBlock = some k → ro5 k = 0) := fun k hk => (ag5 k (by have := (t3.out k hk).2; have := z1.out; omega) (fun e => by have := (t2.out k e).2; have := (t3.out k hk).1; omega)).trans (N1.out k (by have := (t3.out k hk).1; have := z1.out; omega))
          have N4 : Hid (∀ k, (Value.slice vf ln vg).ownBlock = some k → ro5 k = 0) := fun k hk => (ag5 k (t4.out k hk).2 (fun e => by have := (t2.out k e).2; have := (t4.out k hk).1; have := z1.out; omega)).trans (N1.out k (by have := (t4.out k hk).1; have := z1.out; omega))
          have BD5 := hide bd5
          have B05 := hide (B04.out.trans B45.out)
          have HL5 : Hid ((bs ++ ks5).length ≤ 4 * i + 2) := by show _ ≤ _; rw [List.length_append, hk5]; have := HL.out; omega
          have Z45 : Hid (w4.heap.size ≤ w5.heap.size) := hz5
          clear bd5 hk5 ag5 hz5 kp5 o5 ne2 U2 U3 U4 D4 BD4 B04 B45 N1 R1
          have S3 : Hid (Seg w5 vd ln L1) := by
            obtain ⟨a9, c9, e9, _, _, s9⟩ := seg_own (l := L1) (by rw [HLN.out]; exact U35.out)
            rw [HLN.out] at e9 s9; cases e9; exact s9
          have S4 : Hid (Seg w5 vf ln L1) := by
            obtain ⟨a9, c9, e9, _, _, s9⟩ := seg_own (l := L1) (by rw [HLN.out]; exact U45.out)
            rw [HLN.out] at e9 s9; cases e9; exact s9
          go_wp2_with fail
          refine (same_any vd vf ln ln ve vg L1 L1 _ S3.out S4.out).mono ?_
          rintro e w6 ⟨rfl, q6, rfl⟩
          rw [same_yes rfl]
          have hb6 : Below w5.heap.size w5 (w5.drewN q6) := below_drewN' (Below.refl _ _) q6
          have D6 := hide (D5.out.later hb6)
          have BD6 := hide (BD5.out.later hb6)
          have B06 := hide (below_drewN' B05.out q6)
          have U36 := hide (own_below U35.out hb6 (Nat.le_refl _))
          have U46 := hide (own_below U45.out hb6 (Nat.le_refl _))
          have Z56 : Hid ((w5.drewN q6).heap.size = w5.heap.size) := rfl
          obtain ⟨w6, hw6⟩ : ∃ w6, w6 = w5.drewN q6 := ⟨_, rfl⟩
          rw [← hw6] at D6 BD6 B06 U36 U46 Z56 ⊢
          clear hb6 hw6 D5 BD5 B05 U35 U45 S3 S4
          go_wp2_with fail
          refine (keep_any (L := L1) BD6.out _ U36.out N3.out (by omega) (by have := HL5.out; omega)).mono ?_
          rintro e w7 ⟨rfl, ro7, vL7, vN7, ks7, bd7, hk7, ag7, hz7, kp7, o7⟩
          have ne3 : ∀ k, ro5 k = 5 → (Value.slice vd ln ve).ownBlock ≠ some k := fun k h e => by have := N3.out k e; omega
          have B67 : Hid (Below w.heap.size w6 w7) := ⟨o7.1, o7.2.1, o7.2.2, hz7, fun k hk => kp7 k (by have := hE1.out; have := z1.out; have := Z45.out; have := Z56.out; omega) (fun e => by have := (t3.out k e).1; have := hE1.out; have := z1.out; omega) (.inl (R5.out.2.2 k hk))⟩
          have D7 : Hid (Dsk 0 w7 b pv1 L1 m1 w.heap.size) := D6.out.on (kp7 b D6.out.box.lt (ne3 b R5.out.1) (.inr (by rw [R5.out.1]; omega))) (fun j hj => kp7 j (D6.out.own.lt j hj).2 (ne3 j (R5.out.2.1 j hj)) (.inr (by rw [R5.out.2.1 j hj]; omega)))
          have R7 : Hid (Rl ro7 b pv1 w.heap.size) := ⟨(ag7 b D6.out.box.lt (ne3 b R5.out.1)).trans R5.out.1, fun j hj => (ag7 j (D6.out.own.lt j hj).2 (ne3 j (R5.out.2.1 j hj))).trans (R5.out.2.1 j hj), fun j hj => (ag7 j (by have := hE1.out; have := z1.out; have := Z45.out; have := Z56.out; omega) (fun e => by have := (t3.out j e).1; have := hE1.out; have := z1.out; omega)).trans (R5.out.2.2 j hj)⟩
          have U47 : Hid (w7.ownsRow 0 5 1 (.slice vf ln vg) ln (L1.map (Value.int .u8))) := own_other U46.out (fun j hj => kp7 j (by have := (t4.out j hj).2; have := Z45.out; have := Z56.out; omega) (fun e => by have := (t3.out j e).2; have := (t4.out j hj).1; omega) (.inl (N4.out j hj)))
          have BD7 := hide bd7
          have B07 := hide (B06.out.trans B67.out)
          have HL7 : Hid (((bs ++ ks5) ++ ks7).length ≤ 4 * (i + 1)) := by show _ ≤ _; rw [List.length_append, hk7]; have := HL5.out; omega
          clear bd7 hk7 ag7 hz7 kp7 o7 ne3 D6 BD6 B06 B67 U36 U46 N3 N4 R5 t2 t3 t4 z1 Z45 Z56 hE1
          have S7 : Hid (Seg w7 vf ln L1) := by
            obtain ⟨a9, c9, e9, _, _, s9⟩ := seg_own (l := L1) (by rw [HLN.out]; exact U47.out)
            rw [HLN.out] at e9 s9; cases e9; exact s9
          go_wp2_with fail
          refine (shows_yes _ b pv1 L1 m1 _ vf ln vg D7.out S7.out).mono ?_
          rintro e w8 ⟨rfl, hb8⟩
          have D8 := hide (D7.out.later hb8)
          have BD8 := hide (BD7.out.later hb8)
          have B08 := hide (B07.out.trans (hb8.mono B07.out.size))
          clear hb8 D7 BD7 B07 U47 S7
          go_wp2_with fail
          refine (whole_any BD8.out 4096).mono ?_
          rintro e w9 ⟨rfl, q9, rfl⟩
          have hb9 : Below w8.heap.size w8 (w8.drewN q9) := below_drewN' (Below.refl _ _) q9
          have D9 := hide (D8.out.later hb9)
          have BD9 := hide (BD8.out.later hb9)
          have B09 := hide (below_drewN' B08.out q9)
          clear hb9 D8 BD8 B08
          go_wp2
          go_roundw
          case rel => exact ⟨i + 1, sp + ln, ro7, pv1, L1, m1, vL7, vN7, _, by go_num, by go_num, by omega, by omega, by omega, HL7, D9, R7, BD9, B09⟩
          case measure => simp [intOf]; omega
        · have q7 : (i : Int) < (n : Int) := by omega
          have q8 : (i : Int) < 200 := by omega
          have q9 : ¬ ((sp : Int) < 12582912) := by omega
          go_wp2_with fail
          refine (whole_any HBD.out 4194374).mono ?_
          rintro e w9 ⟨rfl, q, rfl⟩
          have B9 := hide (below_drewN' HB.out q)
          go_wp2
          go_ret
          exact ⟨rfl, B9.out⟩
      · have q7 : (i : Int) < (n : Int) := by omega
        have q8 : ¬ ((i : Int) < 200) := by omega
        go_wp2_with fail
        refine (whole_any HBD.out 4194374).mono ?_
        rintro e w9 ⟨rfl, q, rfl⟩
        have B9 := hide (below_drewN' HB.out q)
        go_wp2
        go_ret
        exact ⟨rfl, B9.out⟩
    · have q7 : ¬ ((i : Int) < (n : Int)) := by omega
      go_wp2_with fail
      refine (whole_any HBD.out 4194374).mono ?_
      rintro e w9 ⟨rfl, q, rfl⟩
      have B9 := hide (below_drewN' HB.out q)
      go_wp2
      go_ret
      exact ⟨rfl, B9.out⟩

set_option maxRecDepth 100000 in
/-- For every argument and every world. -/
theorem contract (H : Type) (enc : TypeId × Value → H) (W : World) (base : Nat) (args : Array Value) (ds gs : List (DataW H)) (before : List MemPlace)
    (hval : ∀ (j : Nat) t v, Try.f3.params[j]? = some t → args[j]? = some v → Value.okWide Try.prog W .any base t v)
    (hW : DataW.Whole enc Try.prog Try.f3.params.toList Rows.diskNewMemorySpec.vars false W args.toList ds gs before)
    (hsz : (DataW.weightsEach Try.prog (Try.f3.params.toList ++ Rows.diskNewMemorySpec.plain.varTypes Try.prog) (ds ++ gs)).all (· ≤ reachBytes) = true) :
    Calls Try.prog 3 args W fun e W' => ∃ v, e = .returned v ∧ Rows.diskNewMemorySpec.post enc Try.prog Try.f3 false true false false W args v W' := by
  have hW' := hW
  obtain ⟨p, q, hA0, hV, rfl, hfz, hnd⟩ := hW
  have hA : DataW.TrodAll enc Try.prog W 0 (fun _ => true) true Try.f3.params.toList args.toList ds p := hA0
  rw [Try.params3] at hA hval hsz
  obtain ⟨v0, vs0, d0, ds0, p0, q0, hargs, rfl, rfl, h0, tr0⟩ := trodAll_cons hA
  obtain ⟨rfl, rfl, rfl⟩ := trodAll_nil tr0
  obtain rfl : args = #[v0] := by cases args; simp_all
  obtain ⟨rfl, rfl⟩ := trodVars_none hV
  obtain ⟨a0, n0, cap0, rfl⟩ := okWide_slice Try.underlying22 (hval 0 22 v0 rfl rfl)
  have k0 := h0
  have lt0 : ∀ x ∈ p0, x.block < W.heap.size := by obtain ⟨m, hm⟩ := k0; exact DataW.trod_lt m _ _ _ hm
  obtain ⟨fuel0, hf0⟩ := h0
  obtain ⟨l0, hseg0, hcap0⟩ := open_opds hf0 (fun m hm => of_decide_eq_true (List.all_eq_true.1 hsz _ (DataW.weights_mem_each (j := 0) rfl rfl m hm)))
  clear hA0
  refine (walk a0 n0 cap0 l0 W hseg0).mono fun e W' ⟨he, bel⟩ => ?_
  subst he
  exact ⟨_, rfl, _, _, _, [], _, [], hW', trodAll_mk1 (shut_bool Try.underlying4 _), (trodAll_cons_mk (Below.trod laidOut (by kernel_rfl) (of_decide_eq_true (by kernel_rfl)) k0 bel lt0) trodAll_mk0), rfl, bel.frame _, fun h => by cases h⟩

set_option maxRecDepth 100000 in
theorem lifted (os : Os) (started : os.Started) (H : Type) (enc : TypeId × Value → H) :
    ReturnsInHanded {} Try.checked os 3 .any (Rows.diskNewMemorySpec.pre6 enc Try.prog Try.f3 Rows.diskNewMemoryRow.domain false) (Rows.diskNewMemorySpec.post enc Try.prog Try.f3 false true false false) := by
  refine returnsInHanded_of_change_sized (C := Try.checked) own started (by kernel_rfl) Try.func3
    (ChangeSpec.witness6 (enc := enc) (C := Try.checked) false ⟨#[], #[.slice none 0 0], []⟩ 8 (by kernel_rfl) (by kernel_rfl) (by kernel_rfl) (by kernel_rfl)) ?_
  intro W base args ds gs before hval hW _ hsz _
  exact contract H enc W base args ds gs before hval hW hsz

end diskNewMemory
theorem diskNewMemory_proved : Rows.DiskNewMemorySaid :=
  OpenClaim.holds_of_wide 3 Try.f3 rfl rfl rfl rfl rfl rfl rfl ⟨rfl, rfl, rfl, rfl, rfl⟩ rfl rfl rfl rfl rfl (by kernel_rfl) Try.func3 (by kernel_rfl)
    (of_decide_eq_true (by kernel_rfl)) (by unfold Func.isWrapper; first | (rw [if_pos (by decide +kernel)]; kernel_rfl) | (rw [if_neg (by decide +kernel)]; exact ⟨rfl, rfl⟩))
    (fun os started H enc _ => diskNewMemory.lifted os started H enc)
#print axioms diskNewMemory_proved
end Go.Proofs.Ytahpnfbjpdnapaa
