/- The contracts of the statements' helpers feeds and head. -/
import Derived.Test.YtiajkdjljilndaaDoorFrDrL
import Derived.Test.YtiajkdjljilndaaDoorFrSlA
namespace Go.Proofs.YtiajkdjljilndaaDoor
open Go.RowKit Go.Wire1 Go.Crc2 Go.Frm

theorem Str.later2 {w w' : World} {b : Nat} {s : Sm} {pv : Value} {E0 : Nat} (h : Str w b s pv E0) (hb : Below w.heap.size w w') : Str w' b s pv E0 :=
  ⟨h.box.on hb, own_other h.own (fun k hk => hb.block k (h.own.lt k hk).2), h.far, h.six, h.low, h.nil_⟩
theorem own_cap {w : World} {B n cap : Nat} {a : Option Addr} {xs : List Value} (h : w.ownsRow B 5 1 (.slice a n cap) n xs) : n ≤ cap ∧ cap ≤ maxLen := by
  rcases h.2 with ⟨e, h0⟩ | ⟨g, cap', cur, e, _, _, h1, h2, _⟩
  · cases e; exact ⟨Nat.le_refl _, by unfold maxLen; omega⟩
  · cases e; exact ⟨h1, h2⟩
theorem frm_abc : (frm 1 [97, 98, 99]).length = 11 := by rw [frm_len]; rfl
theorem frm_xy : (frm 2 [120, 121]).length = 10 := by rw [frm_len]; rfl

set_option maxHeartbeats 4000000 in
set_option maxRecDepth 100000 in
theorem feeds_any (a : Nat → Addr) (w : World) (hH : Hal w) (hE : Errs w a) : Calls Tryd.prog 15 #[] w fun e w' => e = .returned (.bool true) ∧ Below w.heap.size w w' := by
  have EN0 : Hid (Env w a w.heap.size) := ⟨hH, hE, hE.lt, hE.five⟩
  have hc2 := fun W => abc_any W
  have hfw := fun w b s pv E0 sa cap hS hL hs hnc hc hsep en => feed_whole w b s pv E0 1 0 [] sa 11 cap (frm 1 [97, 98, 99]) a hS hL hs hnc hc (byt_frm 1 [97, 98, 99] (by decide) byt_abc) hsep en [97, 98, 99] (by decide) rfl
  simp only [frm_abc] at hc2
  generalize frm 1 [97, 98, 99] = FR at *
  have HC2 := hide hc2
  have HFW := hide hfw
  clear hc2 hH hE hfw
  go_enter Tryd.func15, Tryd.ntmps15
  go_wp2_with fail
  refine (newStream_yes 1 _ (by decide) w.heap.size (Nat.le_refl _)).mono ?_
  rintro r w1 ⟨rfl, S1, hb1, hz1⟩
  obtain ⟨b, hb⟩ : ∃ b, b = w.heap.size := ⟨_, rfl⟩
  have HB := hide hb
  rw [← hb] at S1 EN0 hz1 ⊢
  have HS1 := hide S1
  have HB1 := hide hb1
  have HZ := hide hz1
  clear S1 hb1 hz1 hb
  go_wp2_with fail
  refine (HC2.out w1).mono ?_
  rintro r w2 ⟨val, rfl, hO, hB2⟩
  obtain ⟨sa, sc, rfl⟩ := own_shape hO
  have SG := hide (own_segN hO)
  have hcap := hide (own_cap hO)
  have hsep : Hid (∀ x, sa = some x → 0 < 11 → x.block ≠ b ∧ some x.block ≠ (Value.slice none 0 0).ownBlock) := by
    show ∀ x, _
    intro x hx hn
    have := (hO.lt x.block (by rw [hx]; rfl)).1
    have := HZ.out
    exact ⟨by omega, by intro e; cases e⟩
  have HB2 : Hid (Below w.heap.size w w2) := HB1.out.trans (hB2.mono HB1.out.size)
  have HS2 := hide (HS1.out.later2 hB2)
  have HE2 : Hid (Env w2 a b) := EN0.out.below (by rw [HB.out]; exact HB2.out)
  clear hO hB2 HS1 EN0
  go_wp2_with fail
  refine (HFW.out w2 b _ _ b sa sc HS2.out (liv_fresh 1 0) SG.out hcap.out.1 hcap.out.2 hsep.out HE2.out).mono ?_
  rintro r w3 ⟨rfl, s1, pv1, ST, _⟩
  have HB3 : Hid (Below w.heap.size w w3) := by
    have := ST.below HS2.out
    rw [HB.out] at this
    exact HB2.out.trans this
  clear ST
  go_wp2
  go_ret
  exact ⟨rfl, HB3.out⟩

set_option maxHeartbeats 4000000 in
set_option maxRecDepth 100000 in
theorem head_any (a : Nat → Addr) (w : World) (hH : Hal w) (hE : Errs w a) : Calls Tryd.prog 8 #[] w fun e w' => e = .returned (.bool true) ∧ Below w.heap.size w w' := by
  have HAL := hide hH
  have HER := hide hE
  have hyy : Byt [120, 121] := fun z hz => by simp at hz; omega
  have hsl := fun W (h : Hal W) => seal_any 2 (some ⟨W.heap.size, 0, none⟩) 2 2 [120, 121] (W.alloc (.cells #[.int .u8 120, .int .u8 121] 5)) (by decide) (seg_new W [120, 121] _ (0, 0) rfl (by decide)) hyy (by decide) (h.alloc _)
  have hfy : Byt (frm 2 [120, 121]) := byt_frm 2 [120, 121] (by decide) hyy
  have hdr := fun (W : World) ca ccap (h : Chs W ca 1 [frm 2 [120, 121]]) (h1 : Hal W) (h2 : Errs W a) => drain_any 2 (by decide) ca 1 ccap [frm 2 [120, 121]] a W h (by simp [frm_xy]) h1 h2
  have hd := drain_at 2 [[120, 121]] [] (by simp) (by simp [Frm.look])
  have ej : joinF 2 [[120, 121]] ++ [] = frm 2 [120, 121] := by simp [joinF]
  have ej2 : (joinF 2 [[120, 121]]).length = 10 := by rw [← frm_xy, ← ej, List.append_nil]
  rw [ej, ej2, frm_xy] at hd
  simp only [DrPost, List.flatten_cons, List.flatten_nil, List.append_nil, frm_xy, hd] at hdr
  simp only [frm_xy] at hsl
  have ht : tailE 2 [] = 0 := rfl
  simp only [ht] at hdr
  generalize frm 2 [120, 121] = FR at *
  have HSL := hide hsl
  have HFY := hide hfy
  have HDR := hide hdr
  clear hsl hfy hdr hd ej ej2 ht hyy hH hE
  go_enter Tryd.func8, Tryd.ntmps8
  go_wp2_with fail
  refine (feeds_any a w HAL.out HER.out).mono ?_
  rintro r w1 ⟨rfl, hb1⟩
  have B1 := hide hb1
  clear hb1
  go_wp2_with fail
  refine (HSL.out w1 (HAL.out.later B1.out)).mono ?_
  rintro r w2 ⟨g, c, rfl, hc2, hO, hb2⟩
  have SG := hide (own_segN hO)
  have hcap := hide (own_cap hO)
  have B2 : Hid (Below w.heap.size w w2) := (B1.out.alloc B1.out.size _).trans (hb2.mono (by have := B1.out.size; simp; omega))
  have CH : Hid (Chs (w2.alloc (.cells #[.slice (some ⟨g, 0, none⟩) 10 c] 22)) (some ⟨w2.heap.size, 0, none⟩) 1 [FR]) := chs_lit1 _ _ _ _ _ _ SG.out hcap.out.1 hcap.out.2 HFY.out
  clear hO hb2 hc2
  go_wp2_with fail
  refine (num_any 0 _).mono ?_
  rintro r w3 ⟨rfl, rfl⟩
  go_wp2_with fail
  refine (HDR.out _ _ 1 CH.out ((HAL.out.later B2.out).alloc _) ((HER.out.below B2.out (Nat.le_refl _)).below ((Below.refl _ _).alloc (Nat.le_refl _) _) (Nat.le_refl _))).mono ?_
  rintro r w3 ⟨val, gs, rfl, hR, hgs, _, hb3⟩
  obtain ⟨va, vc, rfl⟩ := hR.shape
  have hgl : gs.length = 1 := by have := congrArg List.length hgs; simpa using this
  rw [hgl]
  have B3 : Hid (Below w.heap.size w w3) := (B2.out.alloc B2.out.size _).trans (hb3.mono (by have := B2.out.size; simp; omega))
  clear hR hgs hb3 hgl
  go_wp2_with fail
  refine (num_any 0 _).mono ?_
  rintro r w4 ⟨rfl, rfl⟩
  go_wp2
  go_ret
  exact ⟨rfl, B3.out⟩
end Go.Proofs.YtiajkdjljilndaaDoor
