/- Proved: for every version, n and list of bytes MsgSound answers true: what is read from bytes is within all bounds. Conditions: the two tables of kinds and the five sentinels of package wire start as the program's text lays them (the card ties them). -/
import Derived.Test.YtbdkelffncmkhaaGreatDoorJ42
import Derived.Test.YtbdkelffncmkhaaGreatDoorJ43
import Derived.Test.YtbdkelffncmkhaaGreatDoorJ45
import Derived.Test.YtbdkelffncmkhaaGreatDoorTie
import Derived.Test.YtbdkelffncmkhaaGreatDoorCards
import Derived.Deep.DeepHandedRow
import Derived.Deep.DeepWitnessRowRef
namespace Go.Proofs.YtbdkelffncmkhaaGreatDoor
namespace msgSound
open Go.ChangeShapes Go.WideShapes Go.ChangeAt Go.RowKit Go.Wire1


set_option maxHeartbeats 8000000 in
set_option maxRecDepth 100000 in
theorem walk (v n : Int) (sa : Option Addr) (bn cap : Nat) (l : List Int) (a : Nat → Addr) (w : World) (hs : Seg w sa bn l) (hsrc : Src sa bn cap) (hy : Byt l) (hKc : Knd w) (hK : Kmd w) (he : Errs w a) :
    Calls Tryz.prog 3 #[.int .i64 v, .int .i64 n, .slice sa bn cap] w fun e w' => e = .returned (.bool true) ∧ Below w.heap.size w w' := by
  have HS := hide hs
  have HC := hide hsrc
  have HY := hide hy
  have HhKc := hide hKc
  have HhK := hide hK
  have Hhe := hide he
  clear hs hsrc hy hKc hK he
  go_enter Tryz.func3, Tryz.ntmps3
  go_wp2_with fail
  refine (known5_any a _ HhKc.out HhK.out Hhe.out).mono ?_
  rintro e w1 ⟨rfl, hb⟩
  have B1 : Hid (Below w.heap.size w w1) := hb
  have z1 : w.heap.size ≤ w1.heap.size := B1.out.size
  clear hb
  go_wp2_with fail
  refine (mdecode_any v n _ _ _ l a _ (HS.out.below B1.out (Nat.le_refl _)) HC.out HY.out (Hhe.out.below B1.out (Nat.le_refl _)) (HhKc.out.below B1.out (Nat.le_refl _)) (HhK.out.below B1.out (Nat.le_refl _))).mono ?_
  rintro e w2 ⟨u, rfl, D, hb⟩
  have B2 : Hid (Below w.heap.size w w2) := B1.out.trans (hb.mono (by omega))
  have z2 : w.heap.size ≤ w2.heap.size := B2.out.size
  obtain ⟨ua, uk, uc, rfl, hI, -⟩ := D
  have ONE : Hid ((decM v n l).2 = 0 → chkM v n (decM v n l).1 = 0) := fun h => (decM_one HY.out h).1
  obtain ⟨m, hm⟩ : ∃ m, Hid ((decM v n l).1 = m) := ⟨_, rfl⟩
  obtain ⟨z, hz⟩ : ∃ z, Hid ((decM v n l).2 = z) := ⟨_, rfl⟩
  rw [hm.out, hz.out] at ONE
  rw [hm.out] at hI
  rw [hm.out, hz.out]
  have T2 : Hid (SegI w2 ua uk m.dl) := hI
  clear hb hI hm hz
  obtain ⟨U, hU⟩ : ∃ W, W = w2.alloc (.cells zeroL.toArray 32) := ⟨_, rfl⟩
  have BU : Hid (Below w2.heap.size w2 U) := by rw [hU]; exact (Below.refl _ _).alloc (Nat.le_refl _) _
  have QU : Hid (Blk U w2.heap.size zeroL) := by rw [hU]; exact blk_new w2 32 zeroL
  have TH : Hid (U.there w2.heap.size 0 19) := QU.out.there
  obtain ⟨w3, hX⟩ : ∃ X, X = U.setCells w2.heap.size 0 (mgc m (.slice ua uk uc)) := ⟨_, rfl⟩
  have RX := hide (mbox_stored (w := w2) QU.out (by rfl) BU.out (Nat.le_refl _) hX)
  have B3 : Hid (Below w.heap.size w w3) := B2.out.trans (RX.out.2.mono (by omega))
  have Q3 : Hid (Blk w3 w2.heap.size (mgc m (.slice ua uk uc))) := RX.out.1
  have T3 : Hid (SegI w3 ua uk m.dl) := T2.out.below RX.out.2 (Nat.le_refl _)
  have z3 : w2.heap.size < w3.heap.size := RX.out.1.lt
  have HU := hide hU
  have HX := hide hX
  clear hU hX
  have eU : w2.alloc (.cells #[.int .i64 0, .int .i64 0, .int .i64 0, .int .i64 0, .int .i64 0, .int .i64 0, .int .i64 0, .int .i64 0, .bool false, .int .i64 0, .int .i64 0, .int .i64 0, .string ⟨#[]⟩, .string ⟨#[]⟩, .string ⟨#[]⟩, .string ⟨#[]⟩, .int .i64 0, .int .i64 0, .slice none 0 0] 32) = U := HU.out.symm
  go_upto_region 4 with (first | (refine wpList_store_mid rfl 32 _ _ rfl w2.heap.size 0 (mgc m (.slice ua uk uc)).toArray rfl rfl (by first | exact TH.out | (rw [eU]; exact TH.out)) (by kernel_rfl) (by kernel_rfl) ?_; first | rw [← HX.out] | (rw [eU, ← HX.out])))
  clear eU HU HX TH QU BU RX
  by_cases h0 : z = 0
  · subst h0
    have hchk := ONE.out rfl
    have BD := hide (msg_bnd hchk)
    have hv12 := (val_call (val_msg hchk).1).1
    have hn17 := (val_call (val_msg hchk).1).2
    have UKL : Hid (uk ≤ 7) := by
      have h1 := BD.out.len
      have h2 := T3.out.1
      show uk ≤ 7
      omega
    have ukn : uk = 0 ∨ (uk : Int) = n := by
      have h1 := BD.out.len
      have h2 := T3.out.1
      omega
    clear ONE hchk
    obtain ⟨r1, r2⟩ := BD.out.row
    obtain ⟨n1, n2⟩ := BD.out.num
    obtain ⟨x1, x2⟩ := BD.out.x
    obtain ⟨y1, y2⟩ := BD.out.y
    obtain ⟨p1, p2⟩ := BD.out.p
    obtain ⟨q1, q2⟩ := BD.out.q
    have c1 : w3.cell? ⟨w2.heap.size, 1, none⟩ = some (.int .i64 m.row) := Q3.out.cell 1 _ rfl
    have c2 : w3.cell? ⟨w2.heap.size, 2, none⟩ = some (.int .i64 m.num) := Q3.out.cell 2 _ rfl
    have c3 : w3.cell? ⟨w2.heap.size, 3, none⟩ = some (.int .i64 m.x) := Q3.out.cell 3 _ rfl
    have c4 : w3.cell? ⟨w2.heap.size, 4, none⟩ = some (.int .i64 m.y) := Q3.out.cell 4 _ rfl
    have c5 : w3.cell? ⟨w2.heap.size, 5, none⟩ = some (.int .i64 m.p) := Q3.out.cell 5 _ rfl
    have c6 : w3.cell? ⟨w2.heap.size, 6, none⟩ = some (.int .i64 m.q) := Q3.out.cell 6 _ rfl
    have c7 : w3.cell? ⟨w2.heap.size, 7, none⟩ = some (.int .i64 m.st) := Q3.out.cell 7 _ rfl
    have c12 : w3.cell? ⟨w2.heap.size, 12, none⟩ = some (.string m.c.key) := Q3.out.cell 12 _ rfl
    have c13 : w3.cell? ⟨w2.heap.size, 13, none⟩ = some (.string m.c.key2) := Q3.out.cell 13 _ rfl
    have c14 : w3.cell? ⟨w2.heap.size, 14, none⟩ = some (.string m.c.val) := Q3.out.cell 14 _ rfl
    have c15 : w3.cell? ⟨w2.heap.size, 15, none⟩ = some (.string m.c.old) := Q3.out.cell 15 _ rfl
    have c17 : w3.cell? ⟨w2.heap.size, 17, none⟩ = some (.int .i64 m.sq) := Q3.out.cell 17 _ rfl
    have c18 : w3.cell? ⟨w2.heap.size, 18, none⟩ = some (.slice ua uk uc) := Q3.out.cell 18 _ rfl
    have g1 : decide (m.row < 0) = false := by rw [decide_eq_false_iff_not]; omega
    have g2 : decide (m.row ≥ n) = false := by rw [decide_eq_false_iff_not]; omega
    have g3 : decide (m.num < 1) = false := by rw [decide_eq_false_iff_not]; omega
    have g4 : decide (m.num > 1048576) = false := by rw [decide_eq_false_iff_not]; omega
    have g5 : decide (m.y < 0) = false := by rw [decide_eq_false_iff_not]; omega
    have g6 : decide (m.y ≥ n) = false := by rw [decide_eq_false_iff_not]; omega
    have g7 : decide (m.q < 0) = false := by rw [decide_eq_false_iff_not]; omega
    have g8 : decide (m.q ≥ n) = false := by rw [decide_eq_false_iff_not]; omega
    have g9 : decide (m.x < 0) = false := by rw [decide_eq_false_iff_not]; omega
    have g10 : decide (m.p < 0) = false := by rw [decide_eq_false_iff_not]; omega
    have g11 : decide (m.x > 65535) = false := by rw [decide_eq_false_iff_not]; omega
    have g12 : decide (m.p > 65535) = false := by rw [decide_eq_false_iff_not]; omega
    clear r1 r2 n1 n2 x1 x2 y1 y2 p1 p2 q1 q2
    by_cases huk : uk = 0
    · have g13 : ((uk : Int) != 0) = false := by subst huk; rfl
      clear ukn hn17
      rcases hv12 with rfl | rfl
      · have HMO : Hid (mostV 1 = 1024) := by show _ = _; unfold mostV; rw [if_pos rfl]
        go_upto_region 15 with (first | (go_at_call 6; refine (num5_any _ _).mono ?_; rintro e w' ⟨rfl, rfl⟩))
        go_wp2_with fail
        go_loopw [10] (fun i wr => ∃ k : Nat, i = .int .i64 (k : Int) ∧ k ≤ uk ∧ Hid (Below w.heap.size w wr) ∧ Hid (Blk wr w2.heap.size (mgc m (.slice ua uk uc))) ∧ Hid (SegI wr ua uk m.dl)) (fun i _ => uk - (intOf i).toNat)
        case atStart => exact ⟨0, rfl, Nat.zero_le _, B3, Q3, T3⟩
        case round =>
          obtain ⟨k, rfl, hk, HB, HQ, HT⟩ := hrel
          clear c1 c2 c3 c4 c5 c6 c7 c12 c13 c14 c15 c17 c18
          have c7 : wr.cell? ⟨w2.heap.size, 7, none⟩ = some (.int .i64 m.st) := HQ.out.cell 7 _ rfl
          have c12 : wr.cell? ⟨w2.heap.size, 12, none⟩ = some (.string m.c.key) := HQ.out.cell 12 _ rfl
          have c13 : wr.cell? ⟨w2.heap.size, 13, none⟩ = some (.string m.c.key2) := HQ.out.cell 13 _ rfl
          have c14 : wr.cell? ⟨w2.heap.size, 14, none⟩ = some (.string m.c.val) := HQ.out.cell 14 _ rfl
          have c15 : wr.cell? ⟨w2.heap.size, 15, none⟩ = some (.string m.c.old) := HQ.out.cell 15 _ rfl
          have c17 : wr.cell? ⟨w2.heap.size, 17, none⟩ = some (.int .i64 m.sq) := HQ.out.cell 17 _ rfl
          have c18 : wr.cell? ⟨w2.heap.size, 18, none⟩ = some (.slice ua uk uc) := HQ.out.cell 18 _ rfl
          have hre := UKL.out
          by_cases hlt : k < uk
          · exact absurd hlt (by omega)
          · have hks := BD.out.keys
            have hsq := BD.out.sq
            have hst := BD.out.st
            have hmo : mostV 1 = 1024 := HMO.out
            rw [hmo] at hks
            obtain ⟨hs1, hs2, hs3, hs4⟩ := hks
            have g40 : decide ((m.c.key.size : Int) > 64) = false := by rw [decide_eq_false_iff_not]; omega
            have g41 : decide ((m.c.key2.size : Int) > 64) = false := by rw [decide_eq_false_iff_not]; omega
            have g42 : decide ((m.c.val.size : Int) > 1024) = false := by rw [decide_eq_false_iff_not]; omega
            have g43 : decide ((m.c.old.size : Int) > 1024) = false := by rw [decide_eq_false_iff_not]; omega
            have g44 : decide (m.sq ≥ 0) = true := decide_eq_true (by omega)
            have g45 : decide (m.sq ≤ 1073741824) = true := decide_eq_true (by omega)
            have g46 : decide (m.st ≥ 0) = true := decide_eq_true (by omega)
            have g47 : decide (m.st ≤ 2) = true := decide_eq_true (by omega)
            clear hs1 hs2 hs3 hs4 hsq hst hmo
            go_wp2
            go_ret
            exact ⟨rfl, HB.out⟩
      · have HMO : Hid (mostV 2 = 65536) := by show _ = _; unfold mostV; rw [if_neg (by decide)]
        go_upto_region 15 with (first | (go_at_call 6; refine (num5_any _ _).mono ?_; rintro e w' ⟨rfl, rfl⟩))
        go_wp2_with fail
        go_loopw [10] (fun i wr => ∃ k : Nat, i = .int .i64 (k : Int) ∧ k ≤ uk ∧ Hid (Below w.heap.size w wr) ∧ Hid (Blk wr w2.heap.size (mgc m (.slice ua uk uc))) ∧ Hid (SegI wr ua uk m.dl)) (fun i _ => uk - (intOf i).toNat)
        case atStart => exact ⟨0, rfl, Nat.zero_le _, B3, Q3, T3⟩
        case round =>
          obtain ⟨k, rfl, hk, HB, HQ, HT⟩ := hrel
          clear c1 c2 c3 c4 c5 c6 c7 c12 c13 c14 c15 c17 c18
          have c7 : wr.cell? ⟨w2.heap.size, 7, none⟩ = some (.int .i64 m.st) := HQ.out.cell 7 _ rfl
          have c12 : wr.cell? ⟨w2.heap.size, 12, none⟩ = some (.string m.c.key) := HQ.out.cell 12 _ rfl
          have c13 : wr.cell? ⟨w2.heap.size, 13, none⟩ = some (.string m.c.key2) := HQ.out.cell 13 _ rfl
          have c14 : wr.cell? ⟨w2.heap.size, 14, none⟩ = some (.string m.c.val) := HQ.out.cell 14 _ rfl
          have c15 : wr.cell? ⟨w2.heap.size, 15, none⟩ = some (.string m.c.old) := HQ.out.cell 15 _ rfl
          have c17 : wr.cell? ⟨w2.heap.size, 17, none⟩ = some (.int .i64 m.sq) := HQ.out.cell 17 _ rfl
          have c18 : wr.cell? ⟨w2.heap.size, 18, none⟩ = some (.slice ua uk uc) := HQ.out.cell 18 _ rfl
          have hre := UKL.out
          by_cases hlt : k < uk
          · exact absurd hlt (by omega)
          · have hks := BD.out.keys
            have hsq := BD.out.sq
            have hst := BD.out.st
            have hmo : mostV 2 = 65536 := HMO.out
            rw [hmo] at hks
            obtain ⟨hs1, hs2, hs3, hs4⟩ := hks
            have g40 : decide ((m.c.key.size : Int) > 64) = false := by rw [decide_eq_false_iff_not]; omega
            have g41 : decide ((m.c.key2.size : Int) > 64) = false := by rw [decide_eq_false_iff_not]; omega
            have g42 : decide ((m.c.val.size : Int) > 65536) = false := by rw [decide_eq_false_iff_not]; omega
            have g43 : decide ((m.c.old.size : Int) > 65536) = false := by rw [decide_eq_false_iff_not]; omega
            have g44 : decide (m.sq ≥ 0) = true := decide_eq_true (by omega)
            have g45 : decide (m.sq ≤ 1073741824) = true := decide_eq_true (by omega)
            have g46 : decide (m.st ≥ 0) = true := decide_eq_true (by omega)
            have g47 : decide (m.st ≤ 2) = true := decide_eq_true (by omega)
            clear hs1 hs2 hs3 hs4 hsq hst hmo
            go_wp2
            go_ret
            exact ⟨rfl, HB.out⟩
    · have g13 : ((uk : Int) != 0) = true := by rw [bne_iff_ne]; omega
      have g14 : ((uk : Int) != n) = false := by
        have : (uk : Int) = n := by omega
        rw [this]; simp
      clear ukn hn17
      rcases hv12 with rfl | rfl
      · have HMO : Hid (mostV 1 = 1024) := by show _ = _; unfold mostV; rw [if_pos rfl]
        go_upto_region 15 with (first | (go_at_call 6; refine (num5_any _ _).mono ?_; rintro e w' ⟨rfl, rfl⟩))
        go_wp2_with fail
        go_loopw [10] (fun i wr => ∃ k : Nat, i = .int .i64 (k : Int) ∧ k ≤ uk ∧ Hid (Below w.heap.size w wr) ∧ Hid (Blk wr w2.heap.size (mgc m (.slice ua uk uc))) ∧ Hid (SegI wr ua uk m.dl)) (fun i _ => uk - (intOf i).toNat)
        case atStart => exact ⟨0, rfl, Nat.zero_le _, B3, Q3, T3⟩
        case round =>
          obtain ⟨k, rfl, hk, HB, HQ, HT⟩ := hrel
          clear c1 c2 c3 c4 c5 c6 c7 c12 c13 c14 c15 c17 c18
          have c7 : wr.cell? ⟨w2.heap.size, 7, none⟩ = some (.int .i64 m.st) := HQ.out.cell 7 _ rfl
          have c12 : wr.cell? ⟨w2.heap.size, 12, none⟩ = some (.string m.c.key) := HQ.out.cell 12 _ rfl
          have c13 : wr.cell? ⟨w2.heap.size, 13, none⟩ = some (.string m.c.key2) := HQ.out.cell 13 _ rfl
          have c14 : wr.cell? ⟨w2.heap.size, 14, none⟩ = some (.string m.c.val) := HQ.out.cell 14 _ rfl
          have c15 : wr.cell? ⟨w2.heap.size, 15, none⟩ = some (.string m.c.old) := HQ.out.cell 15 _ rfl
          have c17 : wr.cell? ⟨w2.heap.size, 17, none⟩ = some (.int .i64 m.sq) := HQ.out.cell 17 _ rfl
          have c18 : wr.cell? ⟨w2.heap.size, 18, none⟩ = some (.slice ua uk uc) := HQ.out.cell 18 _ rfl
          have hre := UKL.out
          by_cases hlt : k < uk
          · obtain ⟨ba, oa, rfl, hca⟩ := HT.out.2.2.1 (by omega)
            have ca : wr.cell? ⟨ba, oa + k, none⟩ = some (.int .i64 (m.dl.getD k 0)) := hca k hlt
            have hd : 0 ≤ m.dl.getD k 0 ∧ m.dl.getD k 0 ≤ 1048576 := by
              have hl : k < m.dl.length := by rw [HT.out.1]; exact hlt
              rw [List.getD_eq_getElem?_getD, List.getElem?_eq_getElem hl, Option.getD_some]
              exact BD.out.deps _ (List.getElem_mem hl)
            clear hca
            generalize m.dl.getD k 0 = d at *
            have g30 : decide (d < 0) = false := by rw [decide_eq_false_iff_not]; omega
            have g31 : decide (d > 1048576) = false := by rw [decide_eq_false_iff_not]; omega
            clear hd
            go_wp2
            go_roundw
            case rel => exact ⟨k + 1, by go_num, by omega, HB, HQ, HT⟩
            case measure => simp [intOf]; omega
          · have hks := BD.out.keys
            have hsq := BD.out.sq
            have hst := BD.out.st
            have hmo : mostV 1 = 1024 := HMO.out
            rw [hmo] at hks
            obtain ⟨hs1, hs2, hs3, hs4⟩ := hks
            have g40 : decide ((m.c.key.size : Int) > 64) = false := by rw [decide_eq_false_iff_not]; omega
            have g41 : decide ((m.c.key2.size : Int) > 64) = false := by rw [decide_eq_false_iff_not]; omega
            have g42 : decide ((m.c.val.size : Int) > 1024) = false := by rw [decide_eq_false_iff_not]; omega
            have g43 : decide ((m.c.old.size : Int) > 1024) = false := by rw [decide_eq_false_iff_not]; omega
            have g44 : decide (m.sq ≥ 0) = true := decide_eq_true (by omega)
            have g45 : decide (m.sq ≤ 1073741824) = true := decide_eq_true (by omega)
            have g46 : decide (m.st ≥ 0) = true := decide_eq_true (by omega)
            have g47 : decide (m.st ≤ 2) = true := decide_eq_true (by omega)
            clear hs1 hs2 hs3 hs4 hsq hst hmo
            go_wp2
            go_ret
            exact ⟨rfl, HB.out⟩
      · have HMO : Hid (mostV 2 = 65536) := by show _ = _; unfold mostV; rw [if_neg (by decide)]
        go_upto_region 15 with (first | (go_at_call 6; refine (num5_any _ _).mono ?_; rintro e w' ⟨rfl, rfl⟩))
        go_wp2_with fail
        go_loopw [10] (fun i wr => ∃ k : Nat, i = .int .i64 (k : Int) ∧ k ≤ uk ∧ Hid (Below w.heap.size w wr) ∧ Hid (Blk wr w2.heap.size (mgc m (.slice ua uk uc))) ∧ Hid (SegI wr ua uk m.dl)) (fun i _ => uk - (intOf i).toNat)
        case atStart => exact ⟨0, rfl, Nat.zero_le _, B3, Q3, T3⟩
        case round =>
          obtain ⟨k, rfl, hk, HB, HQ, HT⟩ := hrel
          clear c1 c2 c3 c4 c5 c6 c7 c12 c13 c14 c15 c17 c18
          have c7 : wr.cell? ⟨w2.heap.size, 7, none⟩ = some (.int .i64 m.st) := HQ.out.cell 7 _ rfl
          have c12 : wr.cell? ⟨w2.heap.size, 12, none⟩ = some (.string m.c.key) := HQ.out.cell 12 _ rfl
          have c13 : wr.cell? ⟨w2.heap.size, 13, none⟩ = some (.string m.c.key2) := HQ.out.cell 13 _ rfl
          have c14 : wr.cell? ⟨w2.heap.size, 14, none⟩ = some (.string m.c.val) := HQ.out.cell 14 _ rfl
          have c15 : wr.cell? ⟨w2.heap.size, 15, none⟩ = some (.string m.c.old) := HQ.out.cell 15 _ rfl
          have c17 : wr.cell? ⟨w2.heap.size, 17, none⟩ = some (.int .i64 m.sq) := HQ.out.cell 17 _ rfl
          have c18 : wr.cell? ⟨w2.heap.size, 18, none⟩ = some (.slice ua uk uc) := HQ.out.cell 18 _ rfl
          have hre := UKL.out
          by_cases hlt : k < uk
          · obtain ⟨ba, oa, rfl, hca⟩ := HT.out.2.2.1 (by omega)
            have ca : wr.cell? ⟨ba, oa + k, none⟩ = some (.int .i64 (m.dl.getD k 0)) := hca k hlt
            have hd : 0 ≤ m.dl.getD k 0 ∧ m.dl.getD k 0 ≤ 1048576 := by
              have hl : k < m.dl.length := by rw [HT.out.1]; exact hlt
              rw [List.getD_eq_getElem?_getD, List.getElem?_eq_getElem hl, Option.getD_some]
              exact BD.out.deps _ (List.getElem_mem hl)
            clear hca
            generalize m.dl.getD k 0 = d at *
            have g30 : decide (d < 0) = false := by rw [decide_eq_false_iff_not]; omega
            have g31 : decide (d > 1048576) = false := by rw [decide_eq_false_iff_not]; omega
            clear hd
            go_wp2
            go_roundw
            case rel => exact ⟨k + 1, by go_num, by omega, HB, HQ, HT⟩
            case measure => simp [intOf]; omega
          · have hks := BD.out.keys
            have hsq := BD.out.sq
            have hst := BD.out.st
            have hmo : mostV 2 = 65536 := HMO.out
            rw [hmo] at hks
            obtain ⟨hs1, hs2, hs3, hs4⟩ := hks
            have g40 : decide ((m.c.key.size : Int) > 64) = false := by rw [decide_eq_false_iff_not]; omega
            have g41 : decide ((m.c.key2.size : Int) > 64) = false := by rw [decide_eq_false_iff_not]; omega
            have g42 : decide ((m.c.val.size : Int) > 65536) = false := by rw [decide_eq_false_iff_not]; omega
            have g43 : decide ((m.c.old.size : Int) > 65536) = false := by rw [decide_eq_false_iff_not]; omega
            have g44 : decide (m.sq ≥ 0) = true := decide_eq_true (by omega)
            have g45 : decide (m.sq ≤ 1073741824) = true := decide_eq_true (by omega)
            have g46 : decide (m.st ≥ 0) = true := decide_eq_true (by omega)
            have g47 : decide (m.st ≤ 2) = true := decide_eq_true (by omega)
            clear hs1 hs2 hs3 hs4 hsq hst hmo
            go_wp2
            go_ret
            exact ⟨rfl, HB.out⟩
  · have g1 : (z != 0) = true := by rw [bne_iff_ne]; exact h0
    clear ONE h0
    go_wp2_with (first | (go_at_call 6; refine (num5_any _ _).mono ?_; rintro e w' ⟨rfl, rfl⟩))
    go_ret
    exact ⟨rfl, B3.out⟩

set_option maxRecDepth 100000 in
/-- For every argument and every world. -/
theorem contract (H : Type) (enc : TypeId × Value → H) (W : World) (base : Nat) (args : Array Value) (ds gs : List (DataW H)) (before : List MemPlace)
    (hval : ∀ (j : Nat) t v, Tryz.f3.params[j]? = some t → args[j]? = some v → Value.okWide Tryz.prog W .any base t v)
    (hW : DataW.Whole enc Tryz.prog Tryz.f3.params.toList Rows.msgSoundSpec.vars false W args.toList ds gs before)
    (hsz : (DataW.weightsEach Tryz.prog (Tryz.f3.params.toList ++ (OpenSpec.ofChange Rows.msgSoundSpec).bare.plain.varTypes Tryz.prog) (ds ++ gs)).all (· ≤ reachBytes) = true)
    (hL : laidMetH Tryz.prog Rows.msgSoundRow.laid W) :
    Calls Tryz.prog 3 args W fun e W' => ∃ v, e = .returned v ∧ Rows.msgSoundSpec.post enc Tryz.prog Tryz.f3 false true false false W args v W' := by
  have hW' := hW
  obtain ⟨p, q, hA0, hV, rfl, hfz, hnd⟩ := hW
  have hA : DataW.TrodAll enc Tryz.prog W 0 (fun _ => true) true Tryz.f3.params.toList args.toList ds p := hA0
  rw [Tryz.params3] at hA hval hsz
  obtain ⟨v0, vs0, d0, ds0, p0, q0, hargs, rfl, rfl, h0, tr0⟩ := trodAll_cons hA
  obtain ⟨v1, vs1, d1, ds1, p1, q1, rfl, rfl, rfl, h1, tr1⟩ := trodAll_cons tr0
  obtain ⟨v2, vs2, d2, ds2, p2, q2, rfl, rfl, rfl, h2, tr2⟩ := trodAll_cons tr1
  obtain ⟨rfl, rfl, rfl⟩ := trodAll_nil tr2
  obtain rfl : args = #[v0, v1, v2] := by cases args; simp_all
  obtain ⟨rfl, rfl⟩ := trodVars_none hV
  obtain ⟨y0, rfl, rfl, rfl, w0⟩ := open_int Tryz.underlying3 (hval 0 3 v0 rfl rfl) h0
  have b0 := bounds_i64 w0
  obtain ⟨y1, rfl, rfl, rfl, w1⟩ := open_int Tryz.underlying3 (hval 1 3 v1 rfl rfl) h1
  have b1 := bounds_i64 w1
  obtain ⟨a2, n2, cap2, rfl⟩ := okWide_slice Tryz.underlying22 (hval 2 22 v2 rfl rfl)
  have k2 := h2
  have lt2 : ∀ x ∈ p2, x.block < W.heap.size := by obtain ⟨m, hm⟩ := k2; exact DataW.trod_lt m _ _ _ hm
  obtain ⟨fuel2, hf2⟩ := h2
  obtain ⟨l2, hseg2, hbyt2, hcap2, hdat2⟩ := open_bytes hf2
  have hE := errs_of_laid hL
  clear hA0
  obtain ⟨aa, haa⟩ := hE
  refine (walk y0 y1 a2 n2 cap2 l2 aa W hseg2 (src_of hf2) hbyt2 (knd_of_laid hL) (kmd_of_laid hL) haa).mono fun e W' ⟨he, bel⟩ => ?_
  subst he
  exact ⟨_, rfl, _, _, _, [], _, [], hW', trodAll_mk1 (shut_bool Tryz.underlying4 _), (trodAll_cons_mk (shut_int Tryz.underlying3 w0) (trodAll_cons_mk (shut_int Tryz.underlying3 w1) (trodAll_cons_mk (Below.trod claid (by kernel_rfl) (of_decide_eq_true (by kernel_rfl)) k2 bel lt2) trodAll_mk0))), rfl, bel.frame _, fun h => by cases h⟩

theorem reads (os : Os) {H : Type} (enc : TypeId × Value → H) : ∃ places, DataW.whole enc Tryz.prog ((World.doorLaid Tryz.prog 400 os).forCall (fun _ _ => 0) ⟨#[], #[.int .i64 0, .int .i64 0, .slice none 0 0], []⟩).memory Tryz.f3.params.toList Rows.msgSoundSpec.vars false (#[Value.int .i64 0, .int .i64 0, .slice none 0 0] : Array Value).toList 8 = some ([.lit (.int .i64 0), .lit (.int .i64 0), .nil], [], places) :=
  ⟨[], by kernel_rfl⟩

set_option maxRecDepth 100000 in
theorem lifted (os : Os) (started : os.Started) (H : Type) (enc : TypeId × Value → H) (F : Stop.Interp) :
    ReturnsInHanded {} Tryz.checked os 3 .any ((OpenSpec.ofChange Rows.msgSoundSpec).preRow enc Tryz.prog Tryz.f3 Rows.msgSoundRow.domain false Rows.msgSoundRow.laid) (((OpenSpec.ofChange Rows.msgSoundSpec).at F).post enc Tryz.prog Tryz.f3 false true false false) := by
  obtain ⟨places, hx⟩ := reads os enc
  refine returnsInHanded_of_row (C := Tryz.checked) (s := (OpenSpec.ofChange Rows.msgSoundSpec)) cown started (by kernel_rfl) Tryz.func3
    (witness_row_atRef (enc := enc) (C := Tryz.checked) false (World.doorLaid Tryz.prog 400 os) #[.int .i64 0, .int .i64 0, .slice none 0 0] rfl (by kernel_rfl) (by kernel_rfl) (by kernel_rfl)
      (OpenSpec.preRow_of_cond 8 hx (by kernel_rfl) (fun k hk => by cases hk) (by kernel_rfl) (door_met os _))) ?_
  intro W base args ds gs before hval hW _ hcond hsz hL _ _
  exact contract H enc W base args ds gs before hval hW hsz hL

theorem said : Rows.MsgSoundSaid :=
  OpenClaim.holds_of_cond 3 Tryz.f3 rfl rfl rfl rfl rfl rfl rfl ⟨rfl, rfl, rfl, rfl, rfl⟩ rfl rfl rfl rfl rfl (by kernel_rfl) Tryz.func3 (by kernel_rfl)
    (of_decide_eq_true (by kernel_rfl)) (by unfold Func.isWrapper; first | (rw [if_pos (by decide +kernel)]; kernel_rfl) | (rw [if_neg (by decide +kernel)]; exact ⟨rfl, rfl⟩))
    (fun os started H enc _ F => by rw [OpenClaim.pre_eq_preRow]; exact lifted os started H enc F)

theorem plain (f : FuncId) (fn : Func) (hf : Tryz.pinned.checked.prog.funcNamed "moot/mootlaw5.MsgSound" = some f) (hfn : Tryz.pinned.checked.prog.funcs[f]? = some fn) :
    true = Tryz.pinned.checked.prog.looks [] ∧ ∀ (j : Nat) t, fn.params[j]? = some t → Tryz.pinned.checked.prog.wantsStandIn t = false := by
  obtain rfl : f = 3 := Option.some.inj ((show Tryz.prog.funcNamed "moot/mootlaw5.MsgSound" = some 3 by kernel_rfl).symm.trans hf) |>.symm
  obtain rfl : fn = Tryz.f3 := (Option.some.inj (Tryz.func3.symm.trans hfn)).symm
  refine ⟨by kernel_rfl, fun j t ht => ?_⟩
  rw [Tryz.params3] at ht
  have hm : t ∈ [3, 3, 22] := by simpa using Array.mem_of_getElem? ht
  have hall : ([3, 3, 22].all fun u => !Tryz.prog.wantsStandIn u) = true := by kernel_rfl
  exact (show Tryz.prog.wantsStandIn t = false by simpa using List.all_eq_true.1 hall t hm)

end msgSound
theorem msgSound_proved : Rows.MsgSoundCardSaid :=
  Claim7.holds_tied_plain_at .later [] _ _ _ _ msgSound.said (fun _ h => by cases h) (by kernel_rfl) (fun _ h => by cases h) msgSound_row_tie rfl ⟨rfl, rfl⟩ (by kernel_rfl) rfl msgSound.plain (by kernel_rfl)
#print axioms msgSound_proved
end Go.Proofs.YtbdkelffncmkhaaGreatDoor
