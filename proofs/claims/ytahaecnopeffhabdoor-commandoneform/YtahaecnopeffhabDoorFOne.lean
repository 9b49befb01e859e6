/- The walk of CommandOneForm: it answers true at every version and list of bytes. -/
import Derived.Test.YtahaecnopeffhabDoorDOne2
import Derived.Test.YtahaecnopeffhabDoorEEnc
import Derived.Test.YtahaecnopeffhabDoorHCheck
import Derived.Test.YtahaecnopeffhabDoorHNum
import Derived.Test.YtahaecnopeffhabDoorSame
namespace Go.Proofs.YtahaecnopeffhabDoor
namespace commandOneForm
open Go.RowKit Go.Wire1

theorem gI_bd {l : List Int} (hy : Byt l) (s : St) : -9223372036854775808 ≤ (gI l s).1 ∧ (gI l s).1 ≤ 9223372036854775807 := by
  unfold gI
  split
  · split
    · rename_i x m hd
      exact unzig_bd _ (dec_lt (byt_drop hy _) hd)
    · simp
  · simp
theorem sTail_n {v x : Int} {cl rq : Nat} {ky : ByteArray} {l : List Int} {s : St} (hy : Byt l) : -9223372036854775808 ≤ (sTail v x cl rq ky l s).1.n ∧ (sTail v x cl rq ky l s).1.n ≤ 9223372036854775807 := by
  unfold sTail
  split
  · simp
  · split
    · simp
    · split
      · simp
      · split
        · exact gI_bd hy s
        · simp
theorem decC_n {v : Int} {l : List Int} (hy : Byt l) : -9223372036854775808 ≤ (decC v l).1.n ∧ (decC v l).1.n ≤ 9223372036854775807 := by
  unfold decC
  split
  · split
    · show -9223372036854775808 ≤ (sCmd v (l.take 131281) ⟨0, 0, 0⟩).1.n ∧ (sCmd v (l.take 131281) ⟨0, 0, 0⟩).1.n ≤ 9223372036854775807
      unfold sCmd
      split
      · exact sTail_n (byt_take hy _)
      · simp
    · simp [zeroC]
  · simp [zeroC]
theorem nil_size {s : ByteArray} (h : s.toList.isEmpty = true) : s.size = 0 := by
  rw [Lib.toList_data] at h
  rw [Lib.size_eq, List.isEmpty_iff.1 h]; rfl
theorem chk_keys {v : Int} {c : Cm} (h : chk v c = 0) : c.key.size ≤ 140737488351232 ∧ c.key2.size ≤ 140737488351232 := by
  have h2 := (chk_zero h).2.2 2 (by omega)
  have h3 := (chk_zero h).2.2 3 (by omega)
  unfold faultF at h2 h3
  constructor
  · split at h2
    · split at h2
      · rename_i q; simp [allowF, isKeyB] at q; omega
      · simp [errF] at h2
    · split at h2
      · rename_i q; have := nil_size q; omega
      · simp at h2
  · split at h3
    · split at h3
      · rename_i q; simp [allowF, isKeyB] at q; omega
      · simp [errF] at h3
    · split at h3
      · rename_i q; have := nil_size q; omega
      · simp at h3
theorem D1 : decC 1 [1, 7, 1, 1, 107, 0] = (⟨1, 7, 1, ⟨#[107]⟩, ⟨#[]⟩, ⟨#[]⟩, ⟨#[]⟩, 0⟩, 5, 0) := by kernel_rfl
theorem seg6 (w : World) : Seg (w.alloc (.cells #[.int .u8 1, .int .u8 7, .int .u8 1, .int .u8 1, .int .u8 107, .int .u8 0] 5)) (some ⟨w.heap.size, 0, none⟩) 6 [1, 7, 1, 1, 107, 0] := by
  refine ⟨rfl, by unfold maxLen; omega, fun _ => ⟨w.heap.size, 0, rfl, fun j hj => ?_⟩⟩
  rw [World.cell?_alloc_at _ _ _ _ rfl]
  rcases (by omega : j = 0 ∨ j = 1 ∨ j = 2 ∨ j = 3 ∨ j = 4 ∨ j = 5) with rfl | rfl | rfl | rfl | rfl | rfl <;> rfl

theorem _root_.Go.Proofs.YtahaecnopeffhabDoor.Bx.kind {w : World} {q : Nat} {c : Cm} (h : Bx w q c) (x : Int) : Bx (w.setCell ⟨q, 0, none⟩ (.int .i64 x)) q { c with kind := x } := by
  obtain ⟨h0, h1, h2, h3, h4, h5, h6, h7⟩ := h.box
  refine ⟨⟨World.cell?_setCell_same w ⟨q, 0, none⟩ _ h0, ?_, ?_, ?_, ?_, ?_, ?_, ?_⟩, h.setThaw _ _⟩ <;> (rw [World.cell?_setCell_other _ _ _ _ (by simp)]; assumption)
set_option maxHeartbeats 2000000 in
set_option maxRecDepth 100000 in
theorem walk (v : Int) (sa : Option Addr) (n cap : Nat) (l : List Int) (a : Nat → Addr) (w : World) (hs : Seg w sa n l) (hy : Byt l) (he : Errs w a) (hK : Knd w) (hc : n ≤ cap) (hcm : cap ≤ 9223372036854775807) (hnone : sa = none → n = 0) :
    Calls Tryd.prog 3 #[.int .i64 v, .slice sa n cap] w fun e w' => e = .returned (.bool true) ∧ Below w.heap.size w w' := by
  have HS := hide hs
  have HY := hide hy
  have HE := hide he
  have HK := hide hK
  have hn : l.length = n := hs.1
  obtain ⟨⟨c0, c1, c2, c3, c4, c5, c6, c7⟩, hD1⟩ : ∃ c, Hid ((decC v l).1 = c) := ⟨_, rfl⟩
  obtain ⟨k, hDk⟩ : ∃ k, Hid ((decC v l).2.1 = k) := ⟨_, rfl⟩
  obtain ⟨er, hDe⟩ : ∃ er, Hid ((decC v l).2.2 = er) := ⟨_, rfl⟩
  have R : Hid (er = 0 → chk v ⟨c0, c1, c2, c3, c4, c5, c6, c7⟩ = 0 ∧ 1 ≤ k ∧ k ≤ n ∧ encC ⟨c0, c1, c2, c3, c4, c5, c6, c7⟩ = l.take k) := fun q => by
    have h := (decC_one (v := v) hy (hDe.out.trans q)).2
    rw [hD1.out, hDk.out, hn] at h
    exact h
  have hnb : Hid (-9223372036854775808 ≤ c7 ∧ c7 ≤ 9223372036854775807) := by
    have h := decC_n (v := v) hy
    rw [hD1.out] at h
    exact h
  clear hs hy he hK hn
  go_enter Tryd.func3, Tryd.ntmps3
  go_wp2_with fail
  refine (decode_any (some ⟨w.heap.size, 0, none⟩) 6 6 [1, 7, 1, 1, 107, 0] a 1 _ (by exact seg6 w) (by intro z hz; simp at hz; omega) (HE.out.below ((Below.refl _ w).alloc (Nat.le_refl _) _) (Nat.le_refl _)) (HK.out.below ((Below.refl _ w).alloc (Nat.le_refl _) _) (Nat.le_refl _)) (by omega) (by omega) (by intro q; cases q)).mono ?_
  rintro e w1 ⟨rfl, hb1⟩
  rw [D1]
  simp only
  have B1 : Hid (Below w.heap.size w w1) := low_on ((Below.refl _ w).alloc (Nat.le_refl _) _) hb1 (by simp)
  have hw1 : w.heap.size ≤ w1.heap.size := B1.out.size
  clear hb1
  go_wp2_with fail
  refine (num_any _ _).mono ?_
  rintro e w2 ⟨rfl, rfl⟩
  have B2 : Hid (Below w.heap.size w (w1.alloc (.cells #[.int .i64 1, .int .i64 7, .int .i64 1, .string ⟨#[107]⟩, .string ⟨#[]⟩, .string ⟨#[]⟩, .string ⟨#[]⟩, .int .i64 0] 24))) := B1.out.alloc hw1 _
  go_wp2_with fail
  refine (decode_any sa n cap l a v _ (by exact HS.out.below B2.out (Nat.le_refl _)) HY.out (HE.out.below B2.out (Nat.le_refl _)) (HK.out.below B2.out (Nat.le_refl _)) hc hcm hnone).mono ?_
  rintro e w3 ⟨rfl, hb3⟩
  rw [hD1.out, hDk.out, hDe.out]
  simp only
  have X3 : Hid (Bx w3 w1.heap.size ⟨1, 7, 1, ⟨#[107]⟩, ⟨#[]⟩, ⟨#[]⟩, ⟨#[]⟩, 0⟩) := (bx_new w1 24 1 7 1 ⟨#[107]⟩ ⟨#[]⟩ ⟨#[]⟩ ⟨#[]⟩ 0).of_block (hb3.block w1.heap.size (by simp))
  have B3 : Hid (Below w.heap.size w w3) := low_on B2.out hb3 (by simp; omega)
  clear hb3 B2
  have r0 : w3.cell? ⟨w1.heap.size, 0, none⟩ = some (.int .i64 1) := X3.out.box.1
  have fr0 : w3.frozen? ⟨w1.heap.size, 0, none⟩ = false := X3.out.thaw 0
  have r1 : w3.cell? ⟨w1.heap.size, 1, none⟩ = some (.int .i64 7) := X3.out.box.2.1
  have fr1 : w3.frozen? ⟨w1.heap.size, 1, none⟩ = false := X3.out.thaw 1
  have r2 : w3.cell? ⟨w1.heap.size, 2, none⟩ = some (.int .i64 1) := X3.out.box.2.2.1
  have fr2 : w3.frozen? ⟨w1.heap.size, 2, none⟩ = false := X3.out.thaw 2
  have r3 : w3.cell? ⟨w1.heap.size, 3, none⟩ = some (.string ⟨#[107]⟩) := X3.out.box.2.2.2.1
  have fr3 : w3.frozen? ⟨w1.heap.size, 3, none⟩ = false := X3.out.thaw 3
  have r4 : w3.cell? ⟨w1.heap.size, 4, none⟩ = some (.string ⟨#[]⟩) := X3.out.box.2.2.2.2.1
  have fr4 : w3.frozen? ⟨w1.heap.size, 4, none⟩ = false := X3.out.thaw 4
  have r5 : w3.cell? ⟨w1.heap.size, 5, none⟩ = some (.string ⟨#[]⟩) := X3.out.box.2.2.2.2.2.1
  have fr5 : w3.frozen? ⟨w1.heap.size, 5, none⟩ = false := X3.out.thaw 5
  have r6 : w3.cell? ⟨w1.heap.size, 6, none⟩ = some (.string ⟨#[]⟩) := X3.out.box.2.2.2.2.2.2.1
  have fr6 : w3.frozen? ⟨w1.heap.size, 6, none⟩ = false := X3.out.thaw 6
  have r7 : w3.cell? ⟨w1.heap.size, 7, none⟩ = some (.int .i64 0) := X3.out.box.2.2.2.2.2.2.2
  have fr7 : w3.frozen? ⟨w1.heap.size, 7, none⟩ = false := X3.out.thaw 7
  go_wp2_with fail
  refine (num_any _ _).mono ?_
  rintro e w4 ⟨rfl, rfl⟩
  have X4 : Hid (Bx ((((((((w3.setCell ⟨w1.heap.size, 0, none⟩ (.int .i64 c0)).setCell ⟨w1.heap.size, 1, none⟩ (.int .i64 c1)).setCell ⟨w1.heap.size, 2, none⟩ (.int .i64 c2)).setCell ⟨w1.heap.size, 3, none⟩ (.string c3)).setCell ⟨w1.heap.size, 4, none⟩ (.string c4)).setCell ⟨w1.heap.size, 5, none⟩ (.string c5)).setCell ⟨w1.heap.size, 6, none⟩ (.string c6)).setCell ⟨w1.heap.size, 7, none⟩ (.int .i64 c7)) w1.heap.size ⟨c0, c1, c2, c3, c4, c5, c6, c7⟩) := ((((((((X3.out.kind c0).client c1).req c2).key c3).key2 c4).val c5).old c6).n c7)
  have B4 : Hid (Below w.heap.size w ((((((((w3.setCell ⟨w1.heap.size, 0, none⟩ (.int .i64 c0)).setCell ⟨w1.heap.size, 1, none⟩ (.int .i64 c1)).setCell ⟨w1.heap.size, 2, none⟩ (.int .i64 c2)).setCell ⟨w1.heap.size, 3, none⟩ (.string c3)).setCell ⟨w1.heap.size, 4, none⟩ (.string c4)).setCell ⟨w1.heap.size, 5, none⟩ (.string c5)).setCell ⟨w1.heap.size, 6, none⟩ (.string c6)).setCell ⟨w1.heap.size, 7, none⟩ (.int .i64 c7))) := by
    iterate 8 refine Below.setCell ?_ (by exact hw1) _
    exact B3.out
  clear X3 B3 B1
  generalize ((((((((w3.setCell ⟨w1.heap.size, 0, none⟩ (.int .i64 c0)).setCell ⟨w1.heap.size, 1, none⟩ (.int .i64 c1)).setCell ⟨w1.heap.size, 2, none⟩ (.int .i64 c2)).setCell ⟨w1.heap.size, 3, none⟩ (.string c3)).setCell ⟨w1.heap.size, 4, none⟩ (.string c4)).setCell ⟨w1.heap.size, 5, none⟩ (.string c5)).setCell ⟨w1.heap.size, 6, none⟩ (.string c6)).setCell ⟨w1.heap.size, 7, none⟩ (.int .i64 c7)) = W at *
  clear r0 fr0 r1 fr1 r2 fr2 r3 fr3 r4 fr4 r5 fr5 r6 fr6 r7 fr7
  by_cases hz : er = 0
  · subst hz
    obtain ⟨hchk, hk1, hkn, henc⟩ := R.out rfl
    have HC := hide hchk
    have HN := hide henc
    clear hchk henc
    have b0 : W.cell? ⟨w1.heap.size, 0, none⟩ = some (.int .i64 c0) := X4.out.box.1
    have b1 : W.cell? ⟨w1.heap.size, 1, none⟩ = some (.int .i64 c1) := X4.out.box.2.1
    have b2 : W.cell? ⟨w1.heap.size, 2, none⟩ = some (.int .i64 c2) := X4.out.box.2.2.1
    have b3 : W.cell? ⟨w1.heap.size, 3, none⟩ = some (.string c3) := X4.out.box.2.2.2.1
    have b4 : W.cell? ⟨w1.heap.size, 4, none⟩ = some (.string c4) := X4.out.box.2.2.2.2.1
    have b5 : W.cell? ⟨w1.heap.size, 5, none⟩ = some (.string c5) := X4.out.box.2.2.2.2.2.1
    have b6 : W.cell? ⟨w1.heap.size, 6, none⟩ = some (.string c6) := X4.out.box.2.2.2.2.2.2.1
    have b7 : W.cell? ⟨w1.heap.size, 7, none⟩ = some (.int .i64 c7) := X4.out.box.2.2.2.2.2.2.2
    go_wp2_with fail
    refine (check_any v ⟨c0, c1, c2, c3, c4, c5, c6, c7⟩ _ (HK.out.below B4.out (Nat.le_refl _)) (chk_keys HC.out).1 (chk_keys HC.out).2).mono ?_
    rintro e w5 ⟨rfl, hb5⟩
    rw [HC.out]
    have B5 : Hid (Below w.heap.size w w5) := low_on B4.out hb5 B4.out.size
    have X5 : Hid (Bx w5 w1.heap.size ⟨c0, c1, c2, c3, c4, c5, c6, c7⟩) := X4.out.of_block (hb5.block w1.heap.size X4.out.lt)
    clear hb5 b0 b1 b2 b3 b4 b5 b6 b7
    go_wp2_with fail
    refine (num_any _ _).mono ?_
    rintro e w6 ⟨rfl, rfl⟩
    have b0 : w5.cell? ⟨w1.heap.size, 0, none⟩ = some (.int .i64 c0) := X5.out.box.1
    have b1 : w5.cell? ⟨w1.heap.size, 1, none⟩ = some (.int .i64 c1) := X5.out.box.2.1
    have b2 : w5.cell? ⟨w1.heap.size, 2, none⟩ = some (.int .i64 c2) := X5.out.box.2.2.1
    have b3 : w5.cell? ⟨w1.heap.size, 3, none⟩ = some (.string c3) := X5.out.box.2.2.2.1
    have b4 : w5.cell? ⟨w1.heap.size, 4, none⟩ = some (.string c4) := X5.out.box.2.2.2.2.1
    have b5 : w5.cell? ⟨w1.heap.size, 5, none⟩ = some (.string c5) := X5.out.box.2.2.2.2.2.1
    have b6 : w5.cell? ⟨w1.heap.size, 6, none⟩ = some (.string c6) := X5.out.box.2.2.2.2.2.2.1
    have b7 : w5.cell? ⟨w1.heap.size, 7, none⟩ = some (.int .i64 c7) := X5.out.box.2.2.2.2.2.2.2
    go_wp2_with fail
    refine (encode_any v ⟨c0, c1, c2, c3, c4, c5, c6, c7⟩ _ (HK.out.below B5.out (Nat.le_refl _)) (chk_keys HC.out).1 (chk_keys HC.out).2 hnb.out.1 hnb.out.2 HC.out).mono ?_
    rintro e w7 ⟨u, rfl, own, hb7⟩
    have B7 : Hid (Below w.heap.size w w7) := low_on B5.out hb7 B5.out.size
    rw [HN.out] at own
    obtain ⟨a7, cp7, hu7, _, _, S7⟩ := seg_own own
    subst hu7
    have HS7 := hide S7
    have hlk : Hid ((l.take k).length = k) := by show _ = _; rw [List.length_take, HS.out.1]; omega
    clear hb7 own S7 b0 b1 b2 b3 b4 b5 b6 b7
    rw [hlk.out] at HS7 ⊢
    obtain ⟨ad, rfl⟩ : ∃ ad, sa = some ad := by
      cases sa with
      | none => have := hnone rfl; omega
      | some ad => exact ⟨ad, rfl⟩
    go_wp2_with fail
    refine (same_any a7 (some ad) k k cp7 cap (l.take k) (l.take k) _ HS7.out ((HS.out.below B7.out (Nat.le_refl _)).take hkn)).mono ?_
    rintro e w8 ⟨rfl, q, hq⟩
    rw [show sameB (l.take k) (l.take k) = true from decide_eq_true rfl]
    have B8 : Hid (Below w.heap.size w w8) := by rw [hq]; exact low_drewN B7.out q
    clear hq B7 HS7
    go_wp2_with fail
    refine (num_any _ _).mono ?_
    rintro e w9 ⟨rfl, rfl⟩
    go_wp2
    go_ret
    exact ⟨rfl, B8.out⟩
  · have g0 : (er == 0) = false := by simpa using hz
    clear hz
    go_wp2
    go_ret
    exact ⟨rfl, B4.out⟩
end commandOneForm
end Go.Proofs.YtahaecnopeffhabDoor
