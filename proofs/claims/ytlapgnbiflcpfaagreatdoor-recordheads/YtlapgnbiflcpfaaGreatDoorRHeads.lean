/- Proved: for every two ints RecordHeads answers true: a Head says by itself how many replicas there are. Conditions: the tables of kinds and of rows and the five sentinels of package wire start as the program's text lays them (the card ties them). -/
import Derived.Test.YtlapgnbiflcpfaaGreatDoorJ41
import Derived.Test.YtlapgnbiflcpfaaGreatDoorJ44
import Derived.Test.YtlapgnbiflcpfaaGreatDoorJ42
import Derived.Test.YtlapgnbiflcpfaaGreatDoorJ43
import Derived.Test.YtlapgnbiflcpfaaGreatDoorTie
import Derived.Test.YtlapgnbiflcpfaaGreatDoorCards
import Derived.Deep.DeepHandedRow
import Derived.Deep.DeepWitnessRowRef
namespace Go.Proofs.YtlapgnbiflcpfaaGreatDoor
namespace recordHeads
open Go.ChangeShapes Go.WideShapes Go.ChangeAt Go.RowKit Go.Wire1

def hdR (id of : Int) : Rc := ⟨1, 0, 0, 0, 0, false, zeroC, 0, none, 0, 0, [], id, of⟩
theorem builtH (id of : Int) : Tryz.prog.built 30 [(0, Value.int .i64 1), (7, Value.int .i64 id), (8, Value.int .i64 of)] = some (rcs (hdR id of)).toArray := by kernel_rfl
theorem hd_ok (id of : Int) (w : World) : Rok w (hdR id of) := ⟨seg_none w, by show (0 : Nat) ≤ _; omega, by show (0 : Nat) ≤ _; omega⟩
theorem hd_chk {n id of : Int} (h : isSizeB n = true) : chkR n (hdR id of) = if isSizeB of && (decide (0 ≤ id) && decide (id < of)) then 0 else 66 := by
  have e : extraR (hdR id of) = false := by kernel_rfl
  have e2 : firstR n (hdR id of) (rowR (hdR id of).kind) = if unlR (headB (hdR id of)) 66 = 0 then 0 else unlR (headB (hdR id of)) 66 := rfl
  unfold chkR
  rw [h, e, e2]
  show (if unlR (isSizeB of && (decide (0 ≤ id) && decide (id < of))) 66 = 0 then 0 else unlR (isSizeB of && (decide (0 ≤ id) && decide (id < of))) 66) = _
  cases isSizeB of && (decide (0 ≤ id) && decide (id < of)) <;> rfl
theorem size_k {k : Nat} (h1 : 1 ≤ k) (h7 : k ≤ 7) : isSizeB (k : Int) = true := by simp [isSizeB]; omega
theorem enc_one {x : Nat} (h : x < 8) : (enc x).length = 1 := by
  have H : ∀ y : Fin 8, (enc y.val).length = 1 := by decide +kernel
  exact H ⟨x, h⟩
theorem hd_len {id of : Int} (h2 : id < of) (h3 : of ≤ 7) : (recB (hdR id of)).length = 3 := by
  show (1 :: (enc id.toNat ++ (enc of.toNat ++ []))).length = 3
  rw [List.length_cons, List.length_append, List.length_append, enc_one (by omega), enc_one (by omega)]
  rfl
theorem hd23 : recB (hdR 2 3) = [1, 2, 3] := by decide +kernel
theorem chk23 : chkR 1 (hdR 2 3) = 0 := by decide +kernel
theorem seg0 (w : World) : Seg w none 0 [] := ⟨rfl, by unfold maxLen; omega, fun h => by omega⟩
set_option maxHeartbeats 8000000 in
set_option maxRecDepth 100000 in
theorem walkG (id of : Int) (a : Nat → Addr) (w : World) (hR : Rws w) (hK : Knd w) (he : Errs w a) (h1 : of ≥ 1) (h2 : of ≤ 7) (h3 : id ≥ 0) (h4 : id < of) :
    Calls Tryz.prog 3 #[.int .i64 id, .int .i64 of] w fun e w' => e = .returned (.bool true) ∧ Below w.heap.size w w' := by
  have HW := hide hR
  have HK := hide hK
  have HE := hide he
  have ml3 : (3 : Nat) ≤ maxLen := by unfold maxLen; omega
  clear hR hK he
  obtain ⟨U, hU⟩ : ∃ U, U = w.alloc (.cells zeroL.toArray 30) := ⟨_, rfl⟩
  have BU : Hid (Below w.heap.size w U) := by rw [hU]; exact (Below.refl _ _).alloc (Nat.le_refl _) _
  have QU : Hid (Blk U w.heap.size zeroL) := by rw [hU]; exact blk_new w 30 zeroL
  have TH : Hid (U.there w.heap.size 0 18) := QU.out.there
  obtain ⟨X, hX⟩ : ∃ X, X = U.setCells w.heap.size 0 (rcs (hdR id of)) := ⟨_, rfl⟩
  have RX := hide (box_stored (w := w) QU.out (by rfl) BU.out (Nat.le_refl _) hX)
  have HU := hide hU
  have HX := hide hX
  clear hU hX
  have eU : w.alloc (.cells #[.int .i64 0, .int .i64 0, .int .i64 0, .int .i64 0, .int .i64 0, .bool false, .int .i64 0, .int .i64 0, .int .i64 0, .string ⟨#[]⟩, .string ⟨#[]⟩, .string ⟨#[]⟩, .string ⟨#[]⟩, .int .i64 0, .int .i64 0, .slice none 0 0, .int .i64 0, .int .i64 0] 30) = U := HU.out.symm
  have zX : w.heap.size < X.heap.size := RX.out.1.lt
  have HG : Hid ((isSizeB of && (decide (0 ≤ id) && decide (id < of))) = true) := by
    show _ = true
    simp only [isSizeB, Bool.and_eq_true, decide_eq_true_eq]
    omega
  have CC : Hid (∀ k : Nat, 1 ≤ k → k ≤ 7 → chkR (k : Int) (hdR id of) = 0) := fun k k1 k7 => by rw [hd_chk (size_k k1 k7), HG.out]; rfl
  have C1 : Hid (chkR 1 (hdR id of) = 0) := CC.out 1 (by omega) (by omega)
  have LEN : Hid ((recB (hdR id of)).length = 3) := hd_len h4 h2
  have BYT0 := hide (byt_recB C1.out)

  go_enter Tryz.func3, Tryz.ntmps3
  go_upto_region 3 with (first | (refine wpList_build rfl 30 _ rfl [(0, Value.int .i64 1), (7, Value.int .i64 id), (8, Value.int .i64 of)] rfl _ (builtH id of) ?_) | (refine wpList_store_mid rfl 30 _ _ rfl w.heap.size 0 (rcs (hdR id of)).toArray rfl rfl (by first | exact TH.out | (rw [eU]; exact TH.out)) (by kernel_rfl) (by kernel_rfl) ?_; first | rw [← HX.out] | (rw [eU, ← HX.out])))
  clear eU
  go_wp2_with (first | (refine wpList_load_mid rfl 30 _ rfl w.heap.size 0 rfl (rcs (hdR id of)) _ (RX.out.1.range) Tryz.underlying30 rfl (by kernel_rfl) ?_))
  refine (renc_any 1 (hdR id of) _ (hd_ok id of _) (HW.out.below RX.out.2 (Nat.le_refl _)) (HK.out.below RX.out.2 (Nat.le_refl _)) (by show _ ≤ (0 : Int); omega) (by show (0 : Int) ≤ _; omega) C1.out).mono ?_
  rintro e w1 ⟨u, rfl, ho, hb⟩
  obtain ⟨sa, cap, rfl, hsrc, hseg⟩ := rown_src ho
  have SEG1 := hide hseg
  have B1 : Hid (Below w.heap.size w w1) := RX.out.2.trans (hb.mono (by omega))
  have Q1 : Hid (Blk w1 w.heap.size (rcs (hdR id of))) := RX.out.1.on hb
  have z1 : w.heap.size < w1.heap.size := Q1.out.lt
  clear hb ho hsrc hseg
  obtain ⟨L, hL⟩ : ∃ L, Hid (recB (hdR id of) = L) := ⟨_, rfl⟩
  rw [hL.out] at LEN SEG1 BYT0 ⊢
  have BYT := BYT0
  rw [LEN.out] at SEG1 ⊢
  go_wp2_with (first | (refine wpList_build rfl 30 _ rfl [(0, Value.int .i64 1), (7, Value.int .i64 2), (8, Value.int .i64 3)] rfl _ (builtH 2 3) ?_))
  refine (renc_any 1 (hdR 2 3) _ (hd_ok 2 3 _) (HW.out.below B1.out (Nat.le_refl _)) (HK.out.below B1.out (Nat.le_refl _)) (by show _ ≤ (0 : Int); omega) (by show (0 : Int) ≤ _; omega) chk23).mono ?_
  rintro e w2 ⟨u2, rfl, ho, hb⟩
  rw [hd23] at ho
  obtain ⟨sa2, cap2, rfl, hsrc, hseg⟩ := rown_src ho
  have SEG2 : Hid (Seg w2 sa2 3 [1, 2, 3]) := hseg
  have B2 : Hid (Below w.heap.size w w2) := B1.out.trans (hb.mono (by omega))
  have Q2 : Hid (Blk w2 w.heap.size (rcs (hdR id of))) := Q1.out.on hb
  have z2 : w.heap.size < w2.heap.size := Q2.out.lt
  have SEG12 : Hid (Seg w2 sa 3 L) := SEG1.out.below hb (Nat.le_refl _)
  clear hb ho hsrc hseg
  go_wp2_with fail
  refine (same_any _ _ 3 3 _ _ [1, 2, 3] [1, 2, 3] _ (SEG2.out.below ((Below.refl w2.heap.size w2).more (Nat.le_refl _) _) (Nat.le_refl _)) (seg_lit [1, 2, 3] ml3 rfl rfl rfl)).mono ?_
  rintro e w3 ⟨rfl, q, hq⟩
  have hb : Below w2.heap.size w2 w3 := by rw [hq]; exact ((Below.refl _ _).more (Nat.le_refl _) _).drewN' q
  have B3 : Hid (Below w.heap.size w w3) := B2.out.trans (hb.mono (by omega))
  have Q3 : Hid (Blk w3 w.heap.size (rcs (hdR id of))) := Q2.out.on hb
  have SEG13 : Hid (Seg w3 sa 3 L) := SEG12.out.below hb (Nat.le_refl _)
  rw [sameB_self]
  clear hb hq
  go_wp2
  go_loopw [12] (fun i wr => ∃ k : Nat, i = .int .i64 (k : Int) ∧ 1 ≤ k ∧ k ≤ 8 ∧ Hid (Below w.heap.size w wr) ∧ Hid (Blk wr w.heap.size (rcs (hdR id of))) ∧ Hid (Seg wr sa 3 L)) (fun i _ => 8 - (intOf i).toNat)
  case atStart => exact ⟨1, rfl, Nat.le_refl _, by omega, B3, Q3, SEG13⟩
  case round =>
    obtain ⟨k, rfl, hk1, hk8, HB, HQ, HSG⟩ := hrel
    clear B3 Q3 SEG13
    by_cases hlt : k ≤ 7
    · have CK : Hid (chkR (k : Int) (hdR id of) = 0) := CC.out k hk1 hlt
      have zr : w.heap.size < wr.heap.size := HQ.out.lt
      go_wp2_with (first | (refine wpList_load_mid rfl 30 _ rfl w.heap.size 0 rfl (rcs (hdR id of)) _ (HQ.out.range) Tryz.underlying30 rfl (by kernel_rfl) ?_))
      refine (recCheck_any (k : Int) (hdR id of) _ (hd_ok id of _) (HW.out.below HB.out (Nat.le_refl _)) (HK.out.below HB.out (Nat.le_refl _))).mono ?_
      rintro e w4 ⟨rfl, hb⟩
      rw [CK.out]
      have B4 : Hid (Below w.heap.size w w4) := HB.out.trans (hb.mono (by omega))
      have Q4 : Hid (Blk w4 w.heap.size (rcs (hdR id of))) := HQ.out.on hb
      have z4 : w.heap.size < w4.heap.size := Q4.out.lt
      have S4 : Hid (Seg w4 sa 3 L) := HSG.out.below hb (Nat.le_refl _)
      clear hb
      go_wp2_with (first | (refine wpList_load_mid rfl 30 _ rfl w.heap.size 0 rfl (rcs (hdR id of)) _ (Q4.out.range) Tryz.underlying30 rfl (by kernel_rfl) ?_))
      refine (renc_any (k : Int) (hdR id of) _ (hd_ok id of _) (HW.out.below B4.out (Nat.le_refl _)) (HK.out.below B4.out (Nat.le_refl _)) (by show _ ≤ (0 : Int); omega) (by show (0 : Int) ≤ _; omega) CK.out).mono ?_
      rintro e w5 ⟨u, rfl, ho, hb⟩
      rw [hL.out] at ho
      obtain ⟨ua, ucap, rfl, hsrc, hseg⟩ := rown_src ho
      rw [LEN.out] at hseg hsrc ⊢
      have SEG5 := hide hseg
      have SRC5 := hide hsrc
      have B5 : Hid (Below w.heap.size w w5) := B4.out.trans (hb.mono (by omega))
      have Q5 : Hid (Blk w5 w.heap.size (rcs (hdR id of))) := Q4.out.on hb
      have S5 : Hid (Seg w5 sa 3 L) := S4.out.below hb (Nat.le_refl _)
      have z5 : w.heap.size < w5.heap.size := Q5.out.lt
      clear hb ho hsrc hseg
      go_wp2_with fail
      refine (same_any _ _ 3 3 _ _ L L _ S5.out SEG5.out).mono ?_
      rintro e w6 ⟨rfl, q, hq⟩
      rw [sameB_self]
      have hb : Below w5.heap.size w5 w6 := by rw [hq]; exact (Below.refl _ _).drewN' q
      have B6 : Hid (Below w.heap.size w w6) := B5.out.trans (hb.mono (by omega))
      have Q6 : Hid (Blk w6 w.heap.size (rcs (hdR id of))) := Q5.out.on hb
      have S6 : Hid (Seg w6 sa 3 L) := S5.out.below hb (Nat.le_refl _)
      have SEG6 : Hid (Seg w6 ua 3 L) := SEG5.out.below hb (Nat.le_refl _)
      have z6 : w.heap.size < w6.heap.size := Q6.out.lt
      have BK := hide (decR_back CK.out (by show _ ≤ (0 : Int); omega) (by show (0 : Int) ≤ _; omega))
      rw [hL.out] at BK
      clear hb hq
      go_wp2_with (first | (go_at_call 11; refine (num6_any _ _).mono ?_; rintro e w' ⟨rfl, rfl⟩))
      refine (rdec_any (k : Int) _ _ _ L a _ SEG6.out SRC5.out BYT.out (HE.out.below B6.out (Nat.le_refl _)) (HK.out.below B6.out (Nat.le_refl _)) (HW.out.below B6.out (Nat.le_refl _))).mono ?_
      rintro e w7 ⟨rr, rfl, her, hsg, hb⟩
      rw [BK.out.2]
      have ER : Hid (er (hdR id of) = er rr) := (her.trans BK.out.1).symm
      have SG7 : Hid (SegI w7 rr.da rr.dn rr.deps) := hsg
      have B7 : Hid (Below w.heap.size w w7) := B6.out.trans (hb.mono (by omega))
      have Q7 : Hid (Blk w7 w.heap.size (rcs (hdR id of))) := Q6.out.on hb
      have S7 : Hid (Seg w7 sa 3 L) := S6.out.below hb (Nat.le_refl _)
      have z7 : w.heap.size < w7.heap.size := Q7.out.lt
      clear hb her hsg BK SEG6 SRC5
      obtain ⟨U7, hU7⟩ : ∃ U, U = w7.alloc (.cells zeroL.toArray 30) := ⟨_, rfl⟩
      have BU7 : Hid (Below w7.heap.size w7 U7) := by rw [hU7]; exact (Below.refl _ _).alloc (Nat.le_refl _) _
      have QU7 : Hid (Blk U7 w7.heap.size zeroL) := by rw [hU7]; exact blk_new w7 30 zeroL
      have TH7 : Hid (U7.there w7.heap.size 0 18) := QU7.out.there
      obtain ⟨X7, hX7⟩ : ∃ X, X = U7.setCells w7.heap.size 0 (rcs rr) := ⟨_, rfl⟩
      have RX7 := hide (box_stored (w := w7) QU7.out (by rfl) BU7.out (Nat.le_refl _) hX7)
      have BX7 : Hid (Below w.heap.size w X7) := B7.out.trans (RX7.out.2.mono (by omega))
      have QX7 : Hid (Blk X7 w.heap.size (rcs (hdR id of))) := Q7.out.on RX7.out.2
      have SX7 : Hid (SegI X7 rr.da rr.dn rr.deps) := SG7.out.below RX7.out.2 (Nat.le_refl _)
      have S8 : Hid (Seg X7 sa 3 L) := S7.out.below RX7.out.2 (Nat.le_refl _)
      have HU7 := hide hU7
      have HX7 := hide hX7
      clear hU7 hX7
      have eU7 : w7.alloc (.cells #[.int .i64 0, .int .i64 0, .int .i64 0, .int .i64 0, .int .i64 0, .bool false, .int .i64 0, .int .i64 0, .int .i64 0, .string ⟨#[]⟩, .string ⟨#[]⟩, .string ⟨#[]⟩, .string ⟨#[]⟩, .int .i64 0, .int .i64 0, .slice none 0 0, .int .i64 0, .int .i64 0] 30) = U7 := HU7.out.symm
      have zX7 : w7.heap.size < X7.heap.size := RX7.out.1.lt
      go_upto_region 18 with (first | (refine wpList_store_mid rfl 30 _ _ rfl w7.heap.size 0 (rcs rr).toArray rfl rfl (by first | exact TH7.out | (rw [eU7]; exact TH7.out)) (by kernel_rfl) (by kernel_rfl) ?_; first | rw [← HX7.out] | (rw [eU7, ← HX7.out])))
      clear eU7
      go_wp2_with (first | (refine wpList_load_mid rfl 30 _ rfl w.heap.size 0 rfl (rcs (hdR id of)) _ (QX7.out.range) Tryz.underlying30 rfl (by kernel_rfl) ?_) | (refine wpList_load_mid rfl 30 _ rfl w7.heap.size 0 rfl (rcs rr) _ (RX7.out.1.range) Tryz.underlying30 rfl (by kernel_rfl) ?_))
      refine (sameRec_same (hdR id of) rr _ ER.out (seg_none _) SX7.out).mono ?_
      rintro e w8 ⟨rfl, hb⟩
      have B8 : Hid (Below w.heap.size w w8) := BX7.out.trans (hb.mono (by omega))
      have Q8 : Hid (Blk w8 w.heap.size (rcs (hdR id of))) := QX7.out.on hb
      have S9 : Hid (Seg w8 sa 3 L) := S8.out.below hb (Nat.le_refl _)
      clear hb
      go_wp2_with (first | (go_at_call 11; refine (num6_any _ _).mono ?_; rintro e w' ⟨rfl, rfl⟩))
      go_roundw
      case rel => exact ⟨k + 1, by go_num, by omega, by omega, B8, Q8, S9⟩
      case measure => simp [intOf]; omega
    · go_wp2
      go_ret
      exact ⟨rfl, HB.out⟩
set_option maxHeartbeats 8000000 in
set_option maxRecDepth 100000 in
theorem walkB0 (id of : Int) (a : Nat → Addr) (w : World) (hR : Rws w) (hK : Knd w) (he : Errs w a) (h1 : ¬ of ≥ 1) :
    Calls Tryz.prog 3 #[.int .i64 id, .int .i64 of] w fun e w' => e = .returned (.bool true) ∧ Below w.heap.size w w' := by
  have HW := hide hR
  have HK := hide hK
  have HE := hide he
  have ml3 : (3 : Nat) ≤ maxLen := by unfold maxLen; omega
  clear hR hK he
  obtain ⟨U, hU⟩ : ∃ U, U = w.alloc (.cells zeroL.toArray 30) := ⟨_, rfl⟩
  have BU : Hid (Below w.heap.size w U) := by rw [hU]; exact (Below.refl _ _).alloc (Nat.le_refl _) _
  have QU : Hid (Blk U w.heap.size zeroL) := by rw [hU]; exact blk_new w 30 zeroL
  have TH : Hid (U.there w.heap.size 0 18) := QU.out.there
  obtain ⟨X, hX⟩ : ∃ X, X = U.setCells w.heap.size 0 (rcs (hdR id of)) := ⟨_, rfl⟩
  have RX := hide (box_stored (w := w) QU.out (by rfl) BU.out (Nat.le_refl _) hX)
  have HU := hide hU
  have HX := hide hX
  clear hU hX
  have eU : w.alloc (.cells #[.int .i64 0, .int .i64 0, .int .i64 0, .int .i64 0, .int .i64 0, .bool false, .int .i64 0, .int .i64 0, .int .i64 0, .string ⟨#[]⟩, .string ⟨#[]⟩, .string ⟨#[]⟩, .string ⟨#[]⟩, .int .i64 0, .int .i64 0, .slice none 0 0, .int .i64 0, .int .i64 0] 30) = U := HU.out.symm
  have zX : w.heap.size < X.heap.size := RX.out.1.lt
  have HG : Hid ((isSizeB of && (decide (0 ≤ id) && decide (id < of))) = false) := by
    show _ = false
    rw [Bool.eq_false_iff]
    intro q
    simp only [isSizeB, Bool.and_eq_true, decide_eq_true_eq] at q
    omega
  have CC : Hid (∀ k : Nat, 1 ≤ k → k ≤ 7 → chkR (k : Int) (hdR id of) = 66) := fun k k1 k7 => by rw [hd_chk (size_k k1 k7), HG.out]; rfl
  have C1 : Hid (chkR 1 (hdR id of) = 66) := CC.out 1 (by omega) (by omega)

  go_enter Tryz.func3, Tryz.ntmps3
  go_upto_region 3 with (first | (refine wpList_build rfl 30 _ rfl [(0, Value.int .i64 1), (7, Value.int .i64 id), (8, Value.int .i64 of)] rfl _ (builtH id of) ?_) | (refine wpList_store_mid rfl 30 _ _ rfl w.heap.size 0 (rcs (hdR id of)).toArray rfl rfl (by first | exact TH.out | (rw [eU]; exact TH.out)) (by kernel_rfl) (by kernel_rfl) ?_; first | rw [← HX.out] | (rw [eU, ← HX.out])))
  clear eU
  go_wp2_with (first | (refine wpList_load_mid rfl 30 _ rfl w.heap.size 0 rfl (rcs (hdR id of)) _ (RX.out.1.range) Tryz.underlying30 rfl (by kernel_rfl) ?_))
  refine (renc_no 1 (hdR id of) _ (hd_ok id of _) (HW.out.below RX.out.2 (Nat.le_refl _)) (HK.out.below RX.out.2 (Nat.le_refl _)) (by rw [C1.out]; decide)).mono ?_
  rintro e w1 ⟨rfl, hb⟩
  rw [C1.out]
  have B1 : Hid (Below w.heap.size w w1) := RX.out.2.trans (hb.mono (by omega))
  have Q1 : Hid (Blk w1 w.heap.size (rcs (hdR id of))) := RX.out.1.on hb
  have z1 : w.heap.size < w1.heap.size := Q1.out.lt
  clear hb
  go_wp2_with (first | (refine wpList_build rfl 30 _ rfl [(0, Value.int .i64 1), (7, Value.int .i64 2), (8, Value.int .i64 3)] rfl _ (builtH 2 3) ?_))
  refine (renc_any 1 (hdR 2 3) _ (hd_ok 2 3 _) (HW.out.below B1.out (Nat.le_refl _)) (HK.out.below B1.out (Nat.le_refl _)) (by show _ ≤ (0 : Int); omega) (by show (0 : Int) ≤ _; omega) chk23).mono ?_
  rintro e w2 ⟨u2, rfl, ho, hb⟩
  rw [hd23] at ho
  obtain ⟨sa2, cap2, rfl, hsrc, hseg⟩ := rown_src ho
  have SEG2 : Hid (Seg w2 sa2 3 [1, 2, 3]) := hseg
  have B2 : Hid (Below w.heap.size w w2) := B1.out.trans (hb.mono (by omega))
  have Q2 : Hid (Blk w2 w.heap.size (rcs (hdR id of))) := Q1.out.on hb
  have z2 : w.heap.size < w2.heap.size := Q2.out.lt
  clear hb ho hsrc hseg
  go_wp2_with fail
  refine (same_any _ _ 3 3 _ _ [1, 2, 3] [1, 2, 3] _ (SEG2.out.below ((Below.refl w2.heap.size w2).more (Nat.le_refl _) _) (Nat.le_refl _)) (seg_lit [1, 2, 3] ml3 rfl rfl rfl)).mono ?_
  rintro e w3 ⟨rfl, q, hq⟩
  have hb : Below w2.heap.size w2 w3 := by rw [hq]; exact ((Below.refl _ _).more (Nat.le_refl _) _).drewN' q
  have B3 : Hid (Below w.heap.size w w3) := B2.out.trans (hb.mono (by omega))
  have Q3 : Hid (Blk w3 w.heap.size (rcs (hdR id of))) := Q2.out.on hb
  rw [sameB_self]
  clear hb hq
  go_wp2
  go_loopw [12] (fun i wr => ∃ k : Nat, i = .int .i64 (k : Int) ∧ 1 ≤ k ∧ k ≤ 8 ∧ Hid (Below w.heap.size w wr) ∧ Hid (Blk wr w.heap.size (rcs (hdR id of)))) (fun i _ => 8 - (intOf i).toNat)
  case atStart => exact ⟨1, rfl, Nat.le_refl _, by omega, B3, Q3⟩
  case round =>
    obtain ⟨k, rfl, hk1, hk8, HB, HQ⟩ := hrel
    clear B3 Q3
    by_cases hlt : k ≤ 7
    · have CK : Hid (chkR (k : Int) (hdR id of) = 66) := CC.out k hk1 hlt
      have zr : w.heap.size < wr.heap.size := HQ.out.lt
      go_wp2_with (first | (refine wpList_load_mid rfl 30 _ rfl w.heap.size 0 rfl (rcs (hdR id of)) _ (HQ.out.range) Tryz.underlying30 rfl (by kernel_rfl) ?_))
      refine (recCheck_any (k : Int) (hdR id of) _ (hd_ok id of _) (HW.out.below HB.out (Nat.le_refl _)) (HK.out.below HB.out (Nat.le_refl _))).mono ?_
      rintro e w4 ⟨rfl, hb⟩
      rw [CK.out]
      have B4 : Hid (Below w.heap.size w w4) := HB.out.trans (hb.mono (by omega))
      have Q4 : Hid (Blk w4 w.heap.size (rcs (hdR id of))) := HQ.out.on hb
      have z4 : w.heap.size < w4.heap.size := Q4.out.lt
      clear hb
      go_wp2_with (first | (refine wpList_load_mid rfl 30 _ rfl w.heap.size 0 rfl (rcs (hdR id of)) _ (Q4.out.range) Tryz.underlying30 rfl (by kernel_rfl) ?_))
      refine (renc_no (k : Int) (hdR id of) _ (hd_ok id of _) (HW.out.below B4.out (Nat.le_refl _)) (HK.out.below B4.out (Nat.le_refl _)) (by rw [CK.out]; decide)).mono ?_
      rintro e w5 ⟨rfl, hb⟩
      rw [CK.out]
      have B5 : Hid (Below w.heap.size w w5) := B4.out.trans (hb.mono (by omega))
      have Q5 : Hid (Blk w5 w.heap.size (rcs (hdR id of))) := Q4.out.on hb
      have z5 : w.heap.size < w5.heap.size := Q5.out.lt
      clear hb
      go_wp2_with fail
      refine (same_any _ _ 0 0 _ _ [] [] _ (seg0 _) (seg0 _)).mono ?_
      rintro e w6 ⟨rfl, q, hq⟩
      rw [sameB_self]
      have hb : Below w5.heap.size w5 w6 := by rw [hq]; exact (Below.refl _ _).drewN' q
      have B6 : Hid (Below w.heap.size w w6) := B5.out.trans (hb.mono (by omega))
      have Q6 : Hid (Blk w6 w.heap.size (rcs (hdR id of))) := Q5.out.on hb
      clear hb hq
      go_wp2_with (first | (go_at_call 11; refine (num6_any _ _).mono ?_; rintro e w' ⟨rfl, rfl⟩))
      go_roundw
      case rel => exact ⟨k + 1, by go_num, by omega, by omega, B6, Q6⟩
      case measure => simp [intOf]; omega
    · go_wp2
      go_ret
      exact ⟨rfl, HB.out⟩
set_option maxHeartbeats 8000000 in
set_option maxRecDepth 100000 in
theorem walkB1 (id of : Int) (a : Nat → Addr) (w : World) (hR : Rws w) (hK : Knd w) (he : Errs w a) (h1 : of ≥ 1) (h2 : ¬ of ≤ 7) :
    Calls Tryz.prog 3 #[.int .i64 id, .int .i64 of] w fun e w' => e = .returned (.bool true) ∧ Below w.heap.size w w' := by
  have HW := hide hR
  have HK := hide hK
  have HE := hide he
  have ml3 : (3 : Nat) ≤ maxLen := by unfold maxLen; omega
  clear hR hK he
  obtain ⟨U, hU⟩ : ∃ U, U = w.alloc (.cells zeroL.toArray 30) := ⟨_, rfl⟩
  have BU : Hid (Below w.heap.size w U) := by rw [hU]; exact (Below.refl _ _).alloc (Nat.le_refl _) _
  have QU : Hid (Blk U w.heap.size zeroL) := by rw [hU]; exact blk_new w 30 zeroL
  have TH : Hid (U.there w.heap.size 0 18) := QU.out.there
  obtain ⟨X, hX⟩ : ∃ X, X = U.setCells w.heap.size 0 (rcs (hdR id of)) := ⟨_, rfl⟩
  have RX := hide (box_stored (w := w) QU.out (by rfl) BU.out (Nat.le_refl _) hX)
  have HU := hide hU
  have HX := hide hX
  clear hU hX
  have eU : w.alloc (.cells #[.int .i64 0, .int .i64 0, .int .i64 0, .int .i64 0, .int .i64 0, .bool false, .int .i64 0, .int .i64 0, .int .i64 0, .string ⟨#[]⟩, .string ⟨#[]⟩, .string ⟨#[]⟩, .string ⟨#[]⟩, .int .i64 0, .int .i64 0, .slice none 0 0, .int .i64 0, .int .i64 0] 30) = U := HU.out.symm
  have zX : w.heap.size < X.heap.size := RX.out.1.lt
  have HG : Hid ((isSizeB of && (decide (0 ≤ id) && decide (id < of))) = false) := by
    show _ = false
    rw [Bool.eq_false_iff]
    intro q
    simp only [isSizeB, Bool.and_eq_true, decide_eq_true_eq] at q
    omega
  have CC : Hid (∀ k : Nat, 1 ≤ k → k ≤ 7 → chkR (k : Int) (hdR id of) = 66) := fun k k1 k7 => by rw [hd_chk (size_k k1 k7), HG.out]; rfl
  have C1 : Hid (chkR 1 (hdR id of) = 66) := CC.out 1 (by omega) (by omega)

  go_enter Tryz.func3, Tryz.ntmps3
  go_upto_region 3 with (first | (refine wpList_build rfl 30 _ rfl [(0, Value.int .i64 1), (7, Value.int .i64 id), (8, Value.int .i64 of)] rfl _ (builtH id of) ?_) | (refine wpList_store_mid rfl 30 _ _ rfl w.heap.size 0 (rcs (hdR id of)).toArray rfl rfl (by first | exact TH.out | (rw [eU]; exact TH.out)) (by kernel_rfl) (by kernel_rfl) ?_; first | rw [← HX.out] | (rw [eU, ← HX.out])))
  clear eU
  go_wp2_with (first | (refine wpList_load_mid rfl 30 _ rfl w.heap.size 0 rfl (rcs (hdR id of)) _ (RX.out.1.range) Tryz.underlying30 rfl (by kernel_rfl) ?_))
  refine (renc_no 1 (hdR id of) _ (hd_ok id of _) (HW.out.below RX.out.2 (Nat.le_refl _)) (HK.out.below RX.out.2 (Nat.le_refl _)) (by rw [C1.out]; decide)).mono ?_
  rintro e w1 ⟨rfl, hb⟩
  rw [C1.out]
  have B1 : Hid (Below w.heap.size w w1) := RX.out.2.trans (hb.mono (by omega))
  have Q1 : Hid (Blk w1 w.heap.size (rcs (hdR id of))) := RX.out.1.on hb
  have z1 : w.heap.size < w1.heap.size := Q1.out.lt
  clear hb
  go_wp2_with (first | (refine wpList_build rfl 30 _ rfl [(0, Value.int .i64 1), (7, Value.int .i64 2), (8, Value.int .i64 3)] rfl _ (builtH 2 3) ?_))
  refine (renc_any 1 (hdR 2 3) _ (hd_ok 2 3 _) (HW.out.below B1.out (Nat.le_refl _)) (HK.out.below B1.out (Nat.le_refl _)) (by show _ ≤ (0 : Int); omega) (by show (0 : Int) ≤ _; omega) chk23).mono ?_
  rintro e w2 ⟨u2, rfl, ho, hb⟩
  rw [hd23] at ho
  obtain ⟨sa2, cap2, rfl, hsrc, hseg⟩ := rown_src ho
  have SEG2 : Hid (Seg w2 sa2 3 [1, 2, 3]) := hseg
  have B2 : Hid (Below w.heap.size w w2) := B1.out.trans (hb.mono (by omega))
  have Q2 : Hid (Blk w2 w.heap.size (rcs (hdR id of))) := Q1.out.on hb
  have z2 : w.heap.size < w2.heap.size := Q2.out.lt
  clear hb ho hsrc hseg
  go_wp2_with fail
  refine (same_any _ _ 3 3 _ _ [1, 2, 3] [1, 2, 3] _ (SEG2.out.below ((Below.refl w2.heap.size w2).more (Nat.le_refl _) _) (Nat.le_refl _)) (seg_lit [1, 2, 3] ml3 rfl rfl rfl)).mono ?_
  rintro e w3 ⟨rfl, q, hq⟩
  have hb : Below w2.heap.size w2 w3 := by rw [hq]; exact ((Below.refl _ _).more (Nat.le_refl _) _).drewN' q
  have B3 : Hid (Below w.heap.size w w3) := B2.out.trans (hb.mono (by omega))
  have Q3 : Hid (Blk w3 w.heap.size (rcs (hdR id of))) := Q2.out.on hb
  rw [sameB_self]
  clear hb hq
  go_wp2
  go_loopw [12] (fun i wr => ∃ k : Nat, i = .int .i64 (k : Int) ∧ 1 ≤ k ∧ k ≤ 8 ∧ Hid (Below w.heap.size w wr) ∧ Hid (Blk wr w.heap.size (rcs (hdR id of)))) (fun i _ => 8 - (intOf i).toNat)
  case atStart => exact ⟨1, rfl, Nat.le_refl _, by omega, B3, Q3⟩
  case round =>
    obtain ⟨k, rfl, hk1, hk8, HB, HQ⟩ := hrel
    clear B3 Q3
    by_cases hlt : k ≤ 7
    · have CK : Hid (chkR (k : Int) (hdR id of) = 66) := CC.out k hk1 hlt
      have zr : w.heap.size < wr.heap.size := HQ.out.lt
      go_wp2_with (first | (refine wpList_load_mid rfl 30 _ rfl w.heap.size 0 rfl (rcs (hdR id of)) _ (HQ.out.range) Tryz.underlying30 rfl (by kernel_rfl) ?_))
      refine (recCheck_any (k : Int) (hdR id of) _ (hd_ok id of _) (HW.out.below HB.out (Nat.le_refl _)) (HK.out.below HB.out (Nat.le_refl _))).mono ?_
      rintro e w4 ⟨rfl, hb⟩
      rw [CK.out]
      have B4 : Hid (Below w.heap.size w w4) := HB.out.trans (hb.mono (by omega))
      have Q4 : Hid (Blk w4 w.heap.size (rcs (hdR id of))) := HQ.out.on hb
      have z4 : w.heap.size < w4.heap.size := Q4.out.lt
      clear hb
      go_wp2_with (first | (refine wpList_load_mid rfl 30 _ rfl w.heap.size 0 rfl (rcs (hdR id of)) _ (Q4.out.range) Tryz.underlying30 rfl (by kernel_rfl) ?_))
      refine (renc_no (k : Int) (hdR id of) _ (hd_ok id of _) (HW.out.below B4.out (Nat.le_refl _)) (HK.out.below B4.out (Nat.le_refl _)) (by rw [CK.out]; decide)).mono ?_
      rintro e w5 ⟨rfl, hb⟩
      rw [CK.out]
      have B5 : Hid (Below w.heap.size w w5) := B4.out.trans (hb.mono (by omega))
      have Q5 : Hid (Blk w5 w.heap.size (rcs (hdR id of))) := Q4.out.on hb
      have z5 : w.heap.size < w5.heap.size := Q5.out.lt
      clear hb
      go_wp2_with fail
      refine (same_any _ _ 0 0 _ _ [] [] _ (seg0 _) (seg0 _)).mono ?_
      rintro e w6 ⟨rfl, q, hq⟩
      rw [sameB_self]
      have hb : Below w5.heap.size w5 w6 := by rw [hq]; exact (Below.refl _ _).drewN' q
      have B6 : Hid (Below w.heap.size w w6) := B5.out.trans (hb.mono (by omega))
      have Q6 : Hid (Blk w6 w.heap.size (rcs (hdR id of))) := Q5.out.on hb
      clear hb hq
      go_wp2_with (first | (go_at_call 11; refine (num6_any _ _).mono ?_; rintro e w' ⟨rfl, rfl⟩))
      go_roundw
      case rel => exact ⟨k + 1, by go_num, by omega, by omega, B6, Q6⟩
      case measure => simp [intOf]; omega
    · go_wp2
      go_ret
      exact ⟨rfl, HB.out⟩
set_option maxHeartbeats 8000000 in
set_option maxRecDepth 100000 in
theorem walkB2 (id of : Int) (a : Nat → Addr) (w : World) (hR : Rws w) (hK : Knd w) (he : Errs w a) (h1 : of ≥ 1) (h2 : of ≤ 7) (h3 : ¬ id ≥ 0) :
    Calls Tryz.prog 3 #[.int .i64 id, .int .i64 of] w fun e w' => e = .returned (.bool true) ∧ Below w.heap.size w w' := by
  have HW := hide hR
  have HK := hide hK
  have HE := hide he
  have ml3 : (3 : Nat) ≤ maxLen := by unfold maxLen; omega
  clear hR hK he
  obtain ⟨U, hU⟩ : ∃ U, U = w.alloc (.cells zeroL.toArray 30) := ⟨_, rfl⟩
  have BU : Hid (Below w.heap.size w U) := by rw [hU]; exact (Below.refl _ _).alloc (Nat.le_refl _) _
  have QU : Hid (Blk U w.heap.size zeroL) := by rw [hU]; exact blk_new w 30 zeroL
  have TH : Hid (U.there w.heap.size 0 18) := QU.out.there
  obtain ⟨X, hX⟩ : ∃ X, X = U.setCells w.heap.size 0 (rcs (hdR id of)) := ⟨_, rfl⟩
  have RX := hide (box_stored (w := w) QU.out (by rfl) BU.out (Nat.le_refl _) hX)
  have HU := hide hU
  have HX := hide hX
  clear hU hX
  have eU : w.alloc (.cells #[.int .i64 0, .int .i64 0, .int .i64 0, .int .i64 0, .int .i64 0, .bool false, .int .i64 0, .int .i64 0, .int .i64 0, .string ⟨#[]⟩, .string ⟨#[]⟩, .string ⟨#[]⟩, .string ⟨#[]⟩, .int .i64 0, .int .i64 0, .slice none 0 0, .int .i64 0, .int .i64 0] 30) = U := HU.out.symm
  have zX : w.heap.size < X.heap.size := RX.out.1.lt
  have HG : Hid ((isSizeB of && (decide (0 ≤ id) && decide (id < of))) = false) := by
    show _ = false
    rw [Bool.eq_false_iff]
    intro q
    simp only [isSizeB, Bool.and_eq_true, decide_eq_true_eq] at q
    omega
  have CC : Hid (∀ k : Nat, 1 ≤ k → k ≤ 7 → chkR (k : Int) (hdR id of) = 66) := fun k k1 k7 => by rw [hd_chk (size_k k1 k7), HG.out]; rfl
  have C1 : Hid (chkR 1 (hdR id of) = 66) := CC.out 1 (by omega) (by omega)

  go_enter Tryz.func3, Tryz.ntmps3
  go_upto_region 3 with (first | (refine wpList_build rfl 30 _ rfl [(0, Value.int .i64 1), (7, Value.int .i64 id), (8, Value.int .i64 of)] rfl _ (builtH id of) ?_) | (refine wpList_store_mid rfl 30 _ _ rfl w.heap.size 0 (rcs (hdR id of)).toArray rfl rfl (by first | exact TH.out | (rw [eU]; exact TH.out)) (by kernel_rfl) (by kernel_rfl) ?_; first | rw [← HX.out] | (rw [eU, ← HX.out])))
  clear eU
  go_wp2_with (first | (refine wpList_load_mid rfl 30 _ rfl w.heap.size 0 rfl (rcs (hdR id of)) _ (RX.out.1.range) Tryz.underlying30 rfl (by kernel_rfl) ?_))
  refine (renc_no 1 (hdR id of) _ (hd_ok id of _) (HW.out.below RX.out.2 (Nat.le_refl _)) (HK.out.below RX.out.2 (Nat.le_refl _)) (by rw [C1.out]; decide)).mono ?_
  rintro e w1 ⟨rfl, hb⟩
  rw [C1.out]
  have B1 : Hid (Below w.heap.size w w1) := RX.out.2.trans (hb.mono (by omega))
  have Q1 : Hid (Blk w1 w.heap.size (rcs (hdR id of))) := RX.out.1.on hb
  have z1 : w.heap.size < w1.heap.size := Q1.out.lt
  clear hb
  go_wp2_with (first | (refine wpList_build rfl 30 _ rfl [(0, Value.int .i64 1), (7, Value.int .i64 2), (8, Value.int .i64 3)] rfl _ (builtH 2 3) ?_))
  refine (renc_any 1 (hdR 2 3) _ (hd_ok 2 3 _) (HW.out.below B1.out (Nat.le_refl _)) (HK.out.below B1.out (Nat.le_refl _)) (by show _ ≤ (0 : Int); omega) (by show (0 : Int) ≤ _; omega) chk23).mono ?_
  rintro e w2 ⟨u2, rfl, ho, hb⟩
  rw [hd23] at ho
  obtain ⟨sa2, cap2, rfl, hsrc, hseg⟩ := rown_src ho
  have SEG2 : Hid (Seg w2 sa2 3 [1, 2, 3]) := hseg
  have B2 : Hid (Below w.heap.size w w2) := B1.out.trans (hb.mono (by omega))
  have Q2 : Hid (Blk w2 w.heap.size (rcs (hdR id of))) := Q1.out.on hb
  have z2 : w.heap.size < w2.heap.size := Q2.out.lt
  clear hb ho hsrc hseg
  go_wp2_with fail
  refine (same_any _ _ 3 3 _ _ [1, 2, 3] [1, 2, 3] _ (SEG2.out.below ((Below.refl w2.heap.size w2).more (Nat.le_refl _) _) (Nat.le_refl _)) (seg_lit [1, 2, 3] ml3 rfl rfl rfl)).mono ?_
  rintro e w3 ⟨rfl, q, hq⟩
  have hb : Below w2.heap.size w2 w3 := by rw [hq]; exact ((Below.refl _ _).more (Nat.le_refl _) _).drewN' q
  have B3 : Hid (Below w.heap.size w w3) := B2.out.trans (hb.mono (by omega))
  have Q3 : Hid (Blk w3 w.heap.size (rcs (hdR id of))) := Q2.out.on hb
  rw [sameB_self]
  clear hb hq
  go_wp2
  go_loopw [12] (fun i wr => ∃ k : Nat, i = .int .i64 (k : Int) ∧ 1 ≤ k ∧ k ≤ 8 ∧ Hid (Below w.heap.size w wr) ∧ Hid (Blk wr w.heap.size (rcs (hdR id of)))) (fun i _ => 8 - (intOf i).toNat)
  case atStart => exact ⟨1, rfl, Nat.le_refl _, by omega, B3, Q3⟩
  case round =>
    obtain ⟨k, rfl, hk1, hk8, HB, HQ⟩ := hrel
    clear B3 Q3
    by_cases hlt : k ≤ 7
    · have CK : Hid (chkR (k : Int) (hdR id of) = 66) := CC.out k hk1 hlt
      have zr : w.heap.size < wr.heap.size := HQ.out.lt
      go_wp2_with (first | (refine wpList_load_mid rfl 30 _ rfl w.heap.size 0 rfl (rcs (hdR id of)) _ (HQ.out.range) Tryz.underlying30 rfl (by kernel_rfl) ?_))
      refine (recCheck_any (k : Int) (hdR id of) _ (hd_ok id of _) (HW.out.below HB.out (Nat.le_refl _)) (HK.out.below HB.out (Nat.le_refl _))).mono ?_
      rintro e w4 ⟨rfl, hb⟩
      rw [CK.out]
      have B4 : Hid (Below w.heap.size w w4) := HB.out.trans (hb.mono (by omega))
      have Q4 : Hid (Blk w4 w.heap.size (rcs (hdR id of))) := HQ.out.on hb
      have z4 : w.heap.size < w4.heap.size := Q4.out.lt
      clear hb
      go_wp2_with (first | (refine wpList_load_mid rfl 30 _ rfl w.heap.size 0 rfl (rcs (hdR id of)) _ (Q4.out.range) Tryz.underlying30 rfl (by kernel_rfl) ?_))
      refine (renc_no (k : Int) (hdR id of) _ (hd_ok id of _) (HW.out.below B4.out (Nat.le_refl _)) (HK.out.below B4.out (Nat.le_refl _)) (by rw [CK.out]; decide)).mono ?_
      rintro e w5 ⟨rfl, hb⟩
      rw [CK.out]
      have B5 : Hid (Below w.heap.size w w5) := B4.out.trans (hb.mono (by omega))
      have Q5 : Hid (Blk w5 w.heap.size (rcs (hdR id of))) := Q4.out.on hb
      have z5 : w.heap.size < w5.heap.size := Q5.out.lt
      clear hb
      go_wp2_with fail
      refine (same_any _ _ 0 0 _ _ [] [] _ (seg0 _) (seg0 _)).mono ?_
      rintro e w6 ⟨rfl, q, hq⟩
      rw [sameB_self]
      have hb : Below w5.heap.size w5 w6 := by rw [hq]; exact (Below.refl _ _).drewN' q
      have B6 : Hid (Below w.heap.size w w6) := B5.out.trans (hb.mono (by omega))
      have Q6 : Hid (Blk w6 w.heap.size (rcs (hdR id of))) := Q5.out.on hb
      clear hb hq
      go_wp2_with (first | (go_at_call 11; refine (num6_any _ _).mono ?_; rintro e w' ⟨rfl, rfl⟩))
      go_roundw
      case rel => exact ⟨k + 1, by go_num, by omega, by omega, B6, Q6⟩
      case measure => simp [intOf]; omega
    · go_wp2
      go_ret
      exact ⟨rfl, HB.out⟩
set_option maxHeartbeats 8000000 in
set_option maxRecDepth 100000 in
theorem walkB3 (id of : Int) (a : Nat → Addr) (w : World) (hR : Rws w) (hK : Knd w) (he : Errs w a) (h1 : of ≥ 1) (h2 : of ≤ 7) (h3 : id ≥ 0) (h4 : ¬ id < of) :
    Calls Tryz.prog 3 #[.int .i64 id, .int .i64 of] w fun e w' => e = .returned (.bool true) ∧ Below w.heap.size w w' := by
  have HW := hide hR
  have HK := hide hK
  have HE := hide he
  have ml3 : (3 : Nat) ≤ maxLen := by unfold maxLen; omega
  clear hR hK he
  obtain ⟨U, hU⟩ : ∃ U, U = w.alloc (.cells zeroL.toArray 30) := ⟨_, rfl⟩
  have BU : Hid (Below w.heap.size w U) := by rw [hU]; exact (Below.refl _ _).alloc (Nat.le_refl _) _
  have QU : Hid (Blk U w.heap.size zeroL) := by rw [hU]; exact blk_new w 30 zeroL
  have TH : Hid (U.there w.heap.size 0 18) := QU.out.there
  obtain ⟨X, hX⟩ : ∃ X, X = U.setCells w.heap.size 0 (rcs (hdR id of)) := ⟨_, rfl⟩
  have RX := hide (box_stored (w := w) QU.out (by rfl) BU.out (Nat.le_refl _) hX)
  have HU := hide hU
  have HX := hide hX
  clear hU hX
  have eU : w.alloc (.cells #[.int .i64 0, .int .i64 0, .int .i64 0, .int .i64 0, .int .i64 0, .bool false, .int .i64 0, .int .i64 0, .int .i64 0, .string ⟨#[]⟩, .string ⟨#[]⟩, .string ⟨#[]⟩, .string ⟨#[]⟩, .int .i64 0, .int .i64 0, .slice none 0 0, .int .i64 0, .int .i64 0] 30) = U := HU.out.symm
  have zX : w.heap.size < X.heap.size := RX.out.1.lt
  have HG : Hid ((isSizeB of && (decide (0 ≤ id) && decide (id < of))) = false) := by
    show _ = false
    rw [Bool.eq_false_iff]
    intro q
    simp only [isSizeB, Bool.and_eq_true, decide_eq_true_eq] at q
    omega
  have CC : Hid (∀ k : Nat, 1 ≤ k → k ≤ 7 → chkR (k : Int) (hdR id of) = 66) := fun k k1 k7 => by rw [hd_chk (size_k k1 k7), HG.out]; rfl
  have C1 : Hid (chkR 1 (hdR id of) = 66) := CC.out 1 (by omega) (by omega)

  go_enter Tryz.func3, Tryz.ntmps3
  go_upto_region 3 with (first | (refine wpList_build rfl 30 _ rfl [(0, Value.int .i64 1), (7, Value.int .i64 id), (8, Value.int .i64 of)] rfl _ (builtH id of) ?_) | (refine wpList_store_mid rfl 30 _ _ rfl w.heap.size 0 (rcs (hdR id of)).toArray rfl rfl (by first | exact TH.out | (rw [eU]; exact TH.out)) (by kernel_rfl) (by kernel_rfl) ?_; first | rw [← HX.out] | (rw [eU, ← HX.out])))
  clear eU
  go_wp2_with (first | (refine wpList_load_mid rfl 30 _ rfl w.heap.size 0 rfl (rcs (hdR id of)) _ (RX.out.1.range) Tryz.underlying30 rfl (by kernel_rfl) ?_))
  refine (renc_no 1 (hdR id of) _ (hd_ok id of _) (HW.out.below RX.out.2 (Nat.le_refl _)) (HK.out.below RX.out.2 (Nat.le_refl _)) (by rw [C1.out]; decide)).mono ?_
  rintro e w1 ⟨rfl, hb⟩
  rw [C1.out]
  have B1 : Hid (Below w.heap.size w w1) := RX.out.2.trans (hb.mono (by omega))
  have Q1 : Hid (Blk w1 w.heap.size (rcs (hdR id of))) := RX.out.1.on hb
  have z1 : w.heap.size < w1.heap.size := Q1.out.lt
  clear hb
  go_wp2_with (first | (refine wpList_build rfl 30 _ rfl [(0, Value.int .i64 1), (7, Value.int .i64 2), (8, Value.int .i64 3)] rfl _ (builtH 2 3) ?_))
  refine (renc_any 1 (hdR 2 3) _ (hd_ok 2 3 _) (HW.out.below B1.out (Nat.le_refl _)) (HK.out.below B1.out (Nat.le_refl _)) (by show _ ≤ (0 : Int); omega) (by show (0 : Int) ≤ _; omega) chk23).mono ?_
  rintro e w2 ⟨u2, rfl, ho, hb⟩
  rw [hd23] at ho
  obtain ⟨sa2, cap2, rfl, hsrc, hseg⟩ := rown_src ho
  have SEG2 : Hid (Seg w2 sa2 3 [1, 2, 3]) := hseg
  have B2 : Hid (Below w.heap.size w w2) := B1.out.trans (hb.mono (by omega))
  have Q2 : Hid (Blk w2 w.heap.size (rcs (hdR id of))) := Q1.out.on hb
  have z2 : w.heap.size < w2.heap.size := Q2.out.lt
  clear hb ho hsrc hseg
  go_wp2_with fail
  refine (same_any _ _ 3 3 _ _ [1, 2, 3] [1, 2, 3] _ (SEG2.out.below ((Below.refl w2.heap.size w2).more (Nat.le_refl _) _) (Nat.le_refl _)) (seg_lit [1, 2, 3] ml3 rfl rfl rfl)).mono ?_
  rintro e w3 ⟨rfl, q, hq⟩
  have hb : Below w2.heap.size w2 w3 := by rw [hq]; exact ((Below.refl _ _).more (Nat.le_refl _) _).drewN' q
  have B3 : Hid (Below w.heap.size w w3) := B2.out.trans (hb.mono (by omega))
  have Q3 : Hid (Blk w3 w.heap.size (rcs (hdR id of))) := Q2.out.on hb
  rw [sameB_self]
  clear hb hq
  go_wp2
  go_loopw [12] (fun i wr => ∃ k : Nat, i = .int .i64 (k : Int) ∧ 1 ≤ k ∧ k ≤ 8 ∧ Hid (Below w.heap.size w wr) ∧ Hid (Blk wr w.heap.size (rcs (hdR id of)))) (fun i _ => 8 - (intOf i).toNat)
  case atStart => exact ⟨1, rfl, Nat.le_refl _, by omega, B3, Q3⟩
  case round =>
    obtain ⟨k, rfl, hk1, hk8, HB, HQ⟩ := hrel
    clear B3 Q3
    by_cases hlt : k ≤ 7
    · have CK : Hid (chkR (k : Int) (hdR id of) = 66) := CC.out k hk1 hlt
      have zr : w.heap.size < wr.heap.size := HQ.out.lt
      go_wp2_with (first | (refine wpList_load_mid rfl 30 _ rfl w.heap.size 0 rfl (rcs (hdR id of)) _ (HQ.out.range) Tryz.underlying30 rfl (by kernel_rfl) ?_))
      refine (recCheck_any (k : Int) (hdR id of) _ (hd_ok id of _) (HW.out.below HB.out (Nat.le_refl _)) (HK.out.below HB.out (Nat.le_refl _))).mono ?_
      rintro e w4 ⟨rfl, hb⟩
      rw [CK.out]
      have B4 : Hid (Below w.heap.size w w4) := HB.out.trans (hb.mono (by omega))
      have Q4 : Hid (Blk w4 w.heap.size (rcs (hdR id of))) := HQ.out.on hb
      have z4 : w.heap.size < w4.heap.size := Q4.out.lt
      clear hb
      go_wp2_with (first | (refine wpList_load_mid rfl 30 _ rfl w.heap.size 0 rfl (rcs (hdR id of)) _ (Q4.out.range) Tryz.underlying30 rfl (by kernel_rfl) ?_))
      refine (renc_no (k : Int) (hdR id of) _ (hd_ok id of _) (HW.out.below B4.out (Nat.le_refl _)) (HK.out.below B4.out (Nat.le_refl _)) (by rw [CK.out]; decide)).mono ?_
      rintro e w5 ⟨rfl, hb⟩
      rw [CK.out]
      have B5 : Hid (Below w.heap.size w w5) := B4.out.trans (hb.mono (by omega))
      have Q5 : Hid (Blk w5 w.heap.size (rcs (hdR id of))) := Q4.out.on hb
      have z5 : w.heap.size < w5.heap.size := Q5.out.lt
      clear hb
      go_wp2_with fail
      refine (same_any _ _ 0 0 _ _ [] [] _ (seg0 _) (seg0 _)).mono ?_
      rintro e w6 ⟨rfl, q, hq⟩
      rw [sameB_self]
      have hb : Below w5.heap.size w5 w6 := by rw [hq]; exact (Below.refl _ _).drewN' q
      have B6 : Hid (Below w.heap.size w w6) := B5.out.trans (hb.mono (by omega))
      have Q6 : Hid (Blk w6 w.heap.size (rcs (hdR id of))) := Q5.out.on hb
      clear hb hq
      go_wp2_with (first | (go_at_call 11; refine (num6_any _ _).mono ?_; rintro e w' ⟨rfl, rfl⟩))
      go_roundw
      case rel => exact ⟨k + 1, by go_num, by omega, by omega, B6, Q6⟩
      case measure => simp [intOf]; omega
    · go_wp2
      go_ret
      exact ⟨rfl, HB.out⟩
theorem walk (id of : Int) (a : Nat → Addr) (w : World) (hR : Rws w) (hK : Knd w) (he : Errs w a) :
    Calls Tryz.prog 3 #[.int .i64 id, .int .i64 of] w fun e w' => e = .returned (.bool true) ∧ Below w.heap.size w w' := by
  by_cases h1 : of ≥ 1
  · by_cases h2 : of ≤ 7
    · by_cases h3 : id ≥ 0
      · by_cases h4 : id < of
        · exact walkG id of a w hR hK he h1 h2 h3 h4
        · exact walkB3 id of a w hR hK he h1 h2 h3 h4
      · exact walkB2 id of a w hR hK he h1 h2 h3
    · exact walkB1 id of a w hR hK he h1 h2
  · exact walkB0 id of a w hR hK he h1

set_option maxRecDepth 100000 in
/-- For every argument and every world. -/
theorem contract (H : Type) (enc : TypeId × Value → H) (W : World) (base : Nat) (args : Array Value) (ds gs : List (DataW H)) (before : List MemPlace)
    (hval : ∀ (j : Nat) t v, Tryz.f3.params[j]? = some t → args[j]? = some v → Value.okWide Tryz.prog W .any base t v)
    (hW : DataW.Whole enc Tryz.prog Tryz.f3.params.toList Rows.recordHeadsSpec.vars false W args.toList ds gs before)
    (hsz : (DataW.weightsEach Tryz.prog (Tryz.f3.params.toList ++ (OpenSpec.ofChange Rows.recordHeadsSpec).bare.plain.varTypes Tryz.prog) (ds ++ gs)).all (· ≤ reachBytes) = true)
    (hL : laidMetH Tryz.prog Rows.recordHeadsRow.laid W) :
    Calls Tryz.prog 3 args W fun e W' => ∃ v, e = .returned v ∧ Rows.recordHeadsSpec.post enc Tryz.prog Tryz.f3 false true false false W args v W' := by
  have hW' := hW
  obtain ⟨p, q, hA0, hV, rfl, hfz, hnd⟩ := hW
  have hA : DataW.TrodAll enc Tryz.prog W 0 (fun _ => true) true Tryz.f3.params.toList args.toList ds p := hA0
  rw [Tryz.params3] at hA hval hsz
  obtain ⟨v0, vs0, d0, ds0, p0, q0, hargs, rfl, rfl, h0, r0⟩ := trodAll_cons hA
  obtain ⟨v1, vs1, d1, ds1, p1, q1, rfl, rfl, rfl, h1, r1⟩ := trodAll_cons r0
  obtain ⟨rfl, rfl, rfl⟩ := trodAll_nil r1
  obtain rfl : args = #[v0, v1] := by cases args; simp_all
  obtain ⟨rfl, rfl⟩ := trodVars_none hV
  obtain ⟨y0, rfl, rfl, rfl, w0⟩ := open_int Tryz.underlying3 (hval 0 3 v0 rfl rfl) h0
  have b0 := bounds_i64 w0
  obtain ⟨y1, rfl, rfl, rfl, w1⟩ := open_int Tryz.underlying3 (hval 1 3 v1 rfl rfl) h1
  have b1 := bounds_i64 w1
  have hE := errs_of_laid hL
  clear hA0
  obtain ⟨aa, haa⟩ := hE
  refine (walk y0 y1 aa W (rws_of_laid hL) (knd_of_laid hL) haa).mono fun e W' ⟨he, bel⟩ => ?_
  subst he
  exact ⟨_, rfl, _, _, _, [], _, [], hW', trodAll_mk1 (shut_bool Tryz.underlying4 _), (trodAll_cons_mk (shut_int Tryz.underlying3 w0) (trodAll_cons_mk (shut_int Tryz.underlying3 w1) trodAll_mk0)), rfl, bel.frame _, fun h => by cases h⟩

theorem reads (os : Os) {H : Type} (enc : TypeId × Value → H) : ∃ places, DataW.whole enc Tryz.prog ((World.doorLaid Tryz.prog 400 os).forCall (fun _ _ => 0) ⟨#[], #[.int .i64 0, .int .i64 0], []⟩).memory Tryz.f3.params.toList Rows.recordHeadsSpec.vars false (#[Value.int .i64 0, .int .i64 0] : Array Value).toList 8 = some ([.lit (.int .i64 0), .lit (.int .i64 0)], [], places) :=
  ⟨[], by kernel_rfl⟩

set_option maxRecDepth 100000 in
theorem lifted (os : Os) (started : os.Started) (H : Type) (enc : TypeId × Value → H) (F : Stop.Interp) :
    ReturnsInHanded {} Tryz.checked os 3 .any ((OpenSpec.ofChange Rows.recordHeadsSpec).preRow enc Tryz.prog Tryz.f3 Rows.recordHeadsRow.domain false Rows.recordHeadsRow.laid) (((OpenSpec.ofChange Rows.recordHeadsSpec).at F).post enc Tryz.prog Tryz.f3 false true false false) := by
  obtain ⟨places, hx⟩ := reads os enc
  refine returnsInHanded_of_row (C := Tryz.checked) (s := (OpenSpec.ofChange Rows.recordHeadsSpec)) cown started (by kernel_rfl) Tryz.func3
    (witness_row_atRef (enc := enc) (C := Tryz.checked) false (World.doorLaid Tryz.prog 400 os) #[.int .i64 0, .int .i64 0] rfl (by kernel_rfl) (by kernel_rfl) (by kernel_rfl)
      (OpenSpec.preRow_of_cond 8 hx (by kernel_rfl) (fun k hk => by cases hk) (by kernel_rfl) (door_met os _))) ?_
  intro W base args ds gs before hval hW _ hcond hsz hL _ _
  exact contract H enc W base args ds gs before hval hW hsz hL

theorem said : Rows.RecordHeadsSaid :=
  OpenClaim.holds_of_cond 3 Tryz.f3 rfl rfl rfl rfl rfl rfl rfl ⟨rfl, rfl, rfl, rfl, rfl⟩ rfl rfl rfl rfl rfl (by kernel_rfl) Tryz.func3 (by kernel_rfl)
    (of_decide_eq_true (by kernel_rfl)) (by unfold Func.isWrapper; first | (rw [if_pos (by decide +kernel)]; kernel_rfl) | (rw [if_neg (by decide +kernel)]; exact ⟨rfl, rfl⟩))
    (fun os started H enc _ F => by rw [OpenClaim.pre_eq_preRow]; exact lifted os started H enc F)

theorem plain (f : FuncId) (fn : Func) (hf : Tryz.pinned.checked.prog.funcNamed "moot/mootlaw6.RecordHeads" = some f) (hfn : Tryz.pinned.checked.prog.funcs[f]? = some fn) :
    true = Tryz.pinned.checked.prog.looks [] ∧ ∀ (j : Nat) t, fn.params[j]? = some t → Tryz.pinned.checked.prog.wantsStandIn t = false := by
  obtain rfl : f = 3 := Option.some.inj ((show Tryz.prog.funcNamed "moot/mootlaw6.RecordHeads" = some 3 by kernel_rfl).symm.trans hf) |>.symm
  obtain rfl : fn = Tryz.f3 := (Option.some.inj (Tryz.func3.symm.trans hfn)).symm
  refine ⟨by kernel_rfl, fun j t ht => ?_⟩
  rw [Tryz.params3] at ht
  have hm : t ∈ [3, 3] := by simpa using Array.mem_of_getElem? ht
  have hall : ([3, 3].all fun u => !Tryz.prog.wantsStandIn u) = true := by kernel_rfl
  exact (show Tryz.prog.wantsStandIn t = false by simpa using List.all_eq_true.1 hall t hm)

end recordHeads
theorem recordHeads_proved : Rows.RecordHeadsCardSaid :=
  Claim7.holds_tied_plain_at .later [] _ _ _ _ recordHeads.said (fun _ h => by cases h) (by kernel_rfl) (fun _ h => by cases h) recordHeads_row_tie rfl ⟨rfl, rfl⟩ (by kernel_rfl) rfl recordHeads.plain (by kernel_rfl)
#print axioms recordHeads_proved
end Go.Proofs.YtlapgnbiflcpfaaGreatDoor
