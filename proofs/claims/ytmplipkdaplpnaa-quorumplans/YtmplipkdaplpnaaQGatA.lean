/- The contract of gather, its answers of type moot/api.Attr. -/
import Derived.Test.YtmplipkdaplpnaaQTlyA
import Derived.Test.YtmplipkdaplpnaaQTal
namespace Go.Proofs.Ytmplipkdaplpnaa
open Go.RowKit Go.Wire1

set_option maxHeartbeats 4000000 in
set_option maxRecDepth 100000 in
theorem gatA_any (n slf : Int) (a : Option Addr) (c : Nat) (vs : List Vt) (w : World) (hn : n ≤ 7) (hr : RowS w 15 a vs.length (vs.map vcs)) (hv : ∀ v ∈ vs, Vok w v) :
    Calls Try.prog 16 #[.int .i64 n, .int .i64 slf, .slice a vs.length c, .func (.func 17) #[] #[]] w fun e w' => e = .returned (.pointer (some ⟨w.heap.size + 1, 0, none⟩)) ∧ Tly w' 2 (w.heap.size + 1) w.heap.size n slf (talA n slf vs) ∧ Below w.heap.size w w' := by
  have HR := hide hr
  have HV := hide hv
  have hm := hr.max
  unfold maxLen at hm
  obtain ⟨N, hN⟩ : ∃ N, vs.length = N := ⟨_, rfl⟩
  have HN := hide hN
  rw [hN] at HR hm ⊢
  clear hr hv hN
  go_enter Try.func16, Try.ntmps16
  go_wp2_with fail
  refine (newA_any n slf w hn).mono ?_
  rintro e w1 ⟨rfl, ht1, hb1⟩
  have HT1 := hide ht1
  have HB1 := hide hb1
  clear ht1 hb1
  generalize htb : w.heap.size + 1 = tb at *
  generalize hmb : w.heap.size = mb at *
  have HTB := hide htb
  have HMB := hide hmb
  have hww : w.heap.size ≤ mb := by omega
  clear htb hmb
  go_wp2
  go_loopw [19] (fun i wr => ∃ k : Nat, i = .int .i64 (k : Int) ∧ k ≤ N ∧ Hid (Tly wr 2 tb mb n slf (talA n slf (vs.take k))) ∧ Hid (Below mb w wr)) (fun i _ => N - (intOf i).toNat)
  case atStart => exact ⟨0, rfl, Nat.zero_le _, HT1, HB1⟩
  case round =>
    obtain ⟨k, rfl, hk, HT, HB⟩ := hrel
    by_cases hlt : k < N
    · obtain ⟨v, hkv⟩ : ∃ v, vs[k]? = some v := ⟨_, List.getElem?_eq_getElem (by have := HN.out; omega)⟩
      have HNX : Hid (vs.take (k + 1) = vs.take k ++ [v]) := by show _ = _; rw [List.take_add_one, hkv]; rfl
      have HVO : Hid (Vok wr v) := (HV.out v (List.mem_of_getElem? hkv)).below HB.out (by omega)
      obtain ⟨b, off, rfl, hat⟩ := (HR.out.below HB.out (by omega) (by decide)).at_ (by omega)
      have HRG : Hid (wr.rangeAt b (off + k * 15) (vcs v)) := hat k (vcs v) (by rw [List.getElem?_map, hkv]; rfl)
      clear hat hkv
      have HO := hide (vcs_one v)
      have hmw : mb ≤ wr.heap.size := by have := HT.out.im.lt; omega
      obtain ⟨U, hU⟩ : ∃ U, U = wr.alloc (.cells zv.toArray 33) := ⟨_, rfl⟩
      have HUZ : Hid (Blk U wr.heap.size zv) := by rw [hU]; exact blk_new wr 33 zv
      have TU : Hid (U.there wr.heap.size 0 15) := HUZ.out.there
      obtain ⟨X1, hX1⟩ : ∃ X1, X1 = U.setCells wr.heap.size 0 (vcs v) := ⟨_, rfl⟩
      have HXB : Hid (Blk X1 wr.heap.size (vcs v)) := by rw [hX1]; exact blk_cells HUZ.out rfl
      have BX1 : Hid (Below wr.heap.size wr X1) := by rw [hX1, hU]; exact below_cells (Nat.le_refl _) _ _ _ ((Below.refl _ _).alloc (Nat.le_refl _) _)
      have HUU : Hid (wr.alloc (.cells #[.int .i64 0, .int .i64 0, .bool false, .int .i64 0, .int .i64 0, .int .i64 0, .int .i64 0, .int .i64 0, .string ⟨#[]⟩, .string ⟨#[]⟩, .string ⟨#[]⟩, .string ⟨#[]⟩, .int .i64 0, .int .i64 0, .slice none 0 0] 33) = U) := hU.symm
      have HX1 := hide hX1
      have HXV : Hid (Vok X1 v) := HVO.out.below BX1.out (Nat.le_refl _)
      have HXT := hide (HT.out.on BX1.out)
      have hlt0 : wr.heap.size < X1.heap.size := HXB.out.lt
      have HVB := hide HVO.out.bfr
      clear hU hX1 HUZ HVO HT
      go_wp2_with (first | (refine wpList_load_mid rfl 33 _ rfl b (off + k * 15) rfl (vcs v) _ HRG.out Try.underlying33 rfl (by kernel_rfl) ?_) | (rw [HUU.out]; refine wpList_store_mid rfl 33 _ _ rfl wr.heap.size 0 (vcs v).toArray rfl rfl TU.out (by kernel_rfl) (all_oneCell_toArray HO.out) ?_; rw [← HX1.out]) | (refine wpList_load_mid rfl 33 _ rfl wr.heap.size 0 rfl (vcs v) _ HXB.out.range Try.underlying33 rfl (by kernel_rfl) ?_))
      refine (qattr_any n v X1 HXV.out).mono ?_
      rintro e w2 ⟨rfl, hb2⟩
      have B2 : Hid (Below wr.heap.size wr w2) := BX1.out.trans (hb2.mono (by omega))
      have HQ2 : Hid (Blk w2 wr.heap.size (vcs v)) := HXB.out.on hb2
      have HT2 := hide (HXT.out.on hb2)
      have hlt2 : wr.heap.size < w2.heap.size := HQ2.out.lt
      clear hb2 HUU HX1 HXT HXB HXV TU
      obtain ⟨V, hV⟩ : ∃ V, V = w2.alloc (.cells ([.int .i64 0, .slice none 0 0] : List Value).toArray 24) := ⟨_, rfl⟩
      have HVZ : Hid (Blk V w2.heap.size [.int .i64 0, .slice none 0 0]) := by rw [hV]; exact blk_new w2 24 [.int .i64 0, .slice none 0 0]
      have TV : Hid (V.there w2.heap.size 0 2) := HVZ.out.there
      obtain ⟨X2, hX2⟩ : ∃ X2, X2 = V.setCells w2.heap.size 0 (acs v) := ⟨_, rfl⟩
      have HX2B : Hid (Blk X2 w2.heap.size (acs v)) := by rw [hX2]; exact blk_cells HVZ.out rfl
      have BX2 : Hid (Below w2.heap.size w2 X2) := by rw [hX2, hV]; exact below_cells (Nat.le_refl _) _ _ _ ((Below.refl _ _).alloc (Nat.le_refl _) _)
      have HVV : Hid (w2.alloc (.cells #[.int .i64 0, .slice none 0 0] 24) = V) := hV.symm
      have HX2 := hide hX2
      have HT3 := hide (HT2.out.on BX2.out)
      have HQ3 : Hid (Blk X2 wr.heap.size (vcs v)) := HQ2.out.on BX2.out
      have B3 : Hid (Below wr.heap.size wr X2) := B2.out.trans (BX2.out.mono (by omega))
      have q0 : X2.cell? ⟨wr.heap.size, 0, none⟩ = some (.int .i64 v.fr) := HQ3.out.cell 0 _ rfl
      have HF1 : Hid (∀ u ∈ (acs v), u.oneCell' = true) := acs_one v
      clear hV hX2 HVZ HT2 HQ2 B2
      cases hok : sndQ n v.seq v.deps with
      | true =>
        have HE : Hid (talA n slf (vs.take (k + 1)) = addM n slf (talA n slf (vs.take k)) v.fr (acs v)) := by show _ = _; rw [HNX.out]; exact talA_yes hok
        clear hok
        go_wp2_with (first | (rw [HVV.out]; refine wpList_store_mid rfl 24 _ _ rfl w2.heap.size 0 (acs v).toArray rfl rfl TV.out (by kernel_rfl) (all_oneCell_toArray HF1.out) ?_; rw [← HX2.out]) | (refine wpList_load_mid rfl 24 _ rfl w2.heap.size 0 rfl (acs v) _ HX2B.out.range Try.underlying24 rfl (by kernel_rfl) ?_))
        refine (addA_any HT3.out v.fr (acs v) rfl HF1.out HVB.out).mono ?_
        rintro e w4 ⟨rfl, ht4, hg4⟩
        rw [← HE.out] at ht4
        have HT4 := hide ht4
        have B4 : Hid (Below mb w w4) := ((HB.out.trans (B3.out.mono hmw)).grown hg4 (by have := B3.out.size; omega) (fun j hj => by cases hj; exact Nat.le_refl _))
        generalize okT n slf (talA n slf (vs.take k)) v.fr = okk at *
        clear ht4 hg4
        go_wp2
        go_roundw
        case rel => exact ⟨k + 1, by go_num, by omega, HT4, B4⟩
        case measure => simp [intOf]; omega
      | false =>
        have HE : Hid (talA n slf (vs.take (k + 1)) = talA n slf (vs.take k)) := by show _ = _; rw [HNX.out]; exact talA_no hok
        have HT4 : Hid (Tly X2 2 tb mb n slf (talA n slf (vs.take (k + 1)))) := by rw [HE.out]; exact HT3.out
        have B4 : Hid (Below mb w X2) := HB.out.trans (B3.out.mono hmw)
        clear hok
        go_wp2_with (first | (rw [HVV.out]; refine wpList_store_mid rfl 24 _ _ rfl w2.heap.size 0 (acs v).toArray rfl rfl TV.out (by kernel_rfl) (all_oneCell_toArray HF1.out) ?_; rw [← HX2.out]))
        go_roundw
        case rel => exact ⟨k + 1, by go_num, by omega, HT4, B4⟩
        case measure => simp [intOf]; omega
    · have HTE : Hid (Tly wr 2 tb mb n slf (talA n slf vs)) := by
        have := HT.out
        rwa [List.take_of_length_le (by have := HN.out; omega)] at this
      go_wp2
      go_ret
      have h1 := HTB.out
      have h2 := HMB.out
      subst h2
      subst h1
      exact ⟨rfl, HTE.out, HB.out⟩
end Go.Proofs.Ytmplipkdaplpnaa
