/- The contracts of the document's own PutUint, PutInt and PutText. -/
import Derived.Test.YtahaecnopeffhabDoorPutT
namespace Go.Proofs.YtahaecnopeffhabDoor
open Go.RowKit Go.Wire1 Go.Lib

set_option maxHeartbeats 400000 in
set_option maxRecDepth 100000 in
theorem rputUint_any (x : Nat) (w : World) (hx : x < 18446744073709551616) :
    Calls Tryd.prog 65 #[.int .u64 (x : Int)] w fun e w' => ∃ v, e = .returned v ∧ w'.ownsRow w.heap.size 5 1 v (enc x).length ((enc x).map (Value.int .u8)) ∧ Below w.heap.size w w' := by
  obtain ⟨i0, hi, hz0, hz1, hz2⟩ := info_parts Tryd.info5
  go_enter Tryd.func65, Tryd.ntmps65
  go_wp2
  go_loopw [0, 3] (fun s v wr => ∃ (y : Nat) (pre : List Int) (f : Nat), s = .int .u64 (y : Int) ∧ y < 18446744073709551616 ∧ Hid (y < 128 ^ (f + 1)) ∧ pre.length + f = 9 ∧ Hid (pre ++ encF (f + 1) y = enc x) ∧ wr.ownsRow w.heap.size 5 1 v pre.length (pre.map (Value.int .u8)) ∧ Below w.heap.size w wr)
    (fun s _ _ => (intOf s).toNat)
  case atStart => exact ⟨x, [], 9, rfl, hx, pow10 x hx, rfl, rfl, World.ownsRow_nil _ _ _ _, Below.refl _ _⟩
  case round =>
    obtain ⟨y, pre, f, rfl, hy, HP, hf, HE, hown, hbel⟩ := hrel
    have hsz := hbel.size
    have hpl : pre.length ≤ 9 := by omega
    have HF : Hid (pre.length + f = 9) := hf
    clear hf
    by_cases hc : 128 ≤ y
    · have em : (y : Int) % 128 = ((y % 128 : Nat) : Int) := by omega
      have hm : y % 128 < 128 := Nat.mod_lt _ (by decide)
      obtain ⟨m, hmm⟩ : ∃ m, Hid (y % 128 = m) := ⟨_, hide rfl⟩
      rw [hmm.out] at em hm
      go_wp2_with (first
        | (at_builtin; refine wpList_append_own _ rfl _ _ 22 rfl w.heap.size 5 i0 (.int .u8 0) 1 1 Tryd.underlying22 hi hz0 hz1 hz2 rfl (by decide) _ _ _ rfl (hown.alloc _) ⟨wr.heap.size, 0, none⟩ 1 1 [.int .u8 (128 + (m : Int))] rfl rfl ?c1 ?c2 ?c3 ?c4 ?c5 ?_))
      case c1 =>
        intro j u hj
        match j, hj with
        | 0, hj => simp at hj; subst hj; simp [Addr.add]
      case c2 => intro u hu; simp at hu; subst hu; rfl
      case c3 => unfold maxLen; omega
      case c4 => omega
      case c5 => simp; omega
      intro v' w1 hown' hgrow _
      have e128 : 128 + (m : Int) = ((y % 128 + 128 : Nat) : Int) := by rw [hmm.out]; omega
      rw [e128] at hown'
      have R := push hsz hown hbel hown' hgrow
      clear hown' hgrow hown
      obtain ⟨g, rfl, hg⟩ := pow128 f y HP.out hc
      have HG : Hid (y / 128 < 128 ^ (g + 1)) := hg
      clear hg e128
      go_wp2
      go_roundw
      case rel => exact ⟨y / 128, pre ++ [((y % 128 + 128 : Nat) : Int)], g, by go_num, by omega, HG, by have := HF.out; simp; omega, by have := HE.out; rw [encF_big _ _ hc] at this; simpa [Hid] using this, R.1, R.2⟩
      case measure => simp [intOf]; omega
    · go_wp2_with (first
        | (at_builtin; refine wpList_append_own _ rfl _ _ 22 rfl w.heap.size 5 i0 (.int .u8 0) 1 1 Tryd.underlying22 hi hz0 hz1 hz2 rfl (by decide) _ _ _ rfl (hown.alloc _) ⟨wr.heap.size, 0, none⟩ 1 1 [.int .u8 (y : Int)] rfl rfl ?d1 ?d2 ?d3 ?d4 ?d5 ?_))
      case d1 =>
        intro j u hj
        match j, hj with
        | 0, hj => simp at hj; subst hj; simp [Addr.add]
      case d2 => intro u hu; simp at hu; subst hu; rfl
      case d3 => unfold maxLen; omega
      case d4 => omega
      case d5 => simp; omega
      intro v' w1 hown' hgrow _
      have R := push hsz hown hbel hown' hgrow
      clear hown' hgrow hown
      have HQ : Hid (pre ++ [(y : Int)] = enc x) := by have := HE.out; rw [encF_small _ _ (by omega)] at this; exact this
      go_wp2
      go_ret
      rw [HQ.out] at R
      exact ⟨_, rfl, R.1, R.2⟩

theorem zig_nonneg (x : Int) (h : 0 ≤ x) : 2 * x = ((zig x : Nat) : Int) := by rw [zig, if_pos h]; omega
theorem zig_below (x : Int) (h : x < 0) : 2 * (-(x + 1)) + 1 = ((zig x : Nat) : Int) := by rw [zig, if_neg (by omega)]; omega

set_option maxHeartbeats 400000 in
set_option maxRecDepth 100000 in
theorem rputInt_any (x : Int) (w : World) (h1 : -9223372036854775808 ≤ x) (h2 : x ≤ 9223372036854775807) :
    Calls Tryd.prog 68 #[.int .i64 x] w fun e w' => ∃ v, e = .returned v ∧ w'.ownsRow w.heap.size 5 1 v (enc (zig x)).length ((enc (zig x)).map (Value.int .u8)) ∧ Below w.heap.size w w' := by
  have hz := zig_lt x h1 h2
  by_cases hc : 0 ≤ x
  · have e := zig_nonneg x hc
    obtain ⟨z, hzz⟩ : ∃ z, Hid (zig x = z) := ⟨_, hide rfl⟩
    rw [hzz.out] at e hz ⊢
    have HE := hide e
    clear e
    go_enter Tryd.func68, Tryd.ntmps68
    go_wp2_with fail
    rw [HE.out]
    refine (rputUint_any z _ hz).mono ?_
    rintro e w' ⟨v, rfl, hown, hbel⟩
    go_wp2
    go_ret
    exact ⟨_, rfl, hown, hbel⟩
  · have e := zig_below x (by omega)
    obtain ⟨z, hzz⟩ : ∃ z, Hid (zig x = z) := ⟨_, hide rfl⟩
    rw [hzz.out] at e hz ⊢
    have HE := hide e
    clear e
    go_enter Tryd.func68, Tryd.ntmps68
    go_wp2_with fail
    rw [HE.out]
    refine (rputUint_any z _ hz).mono ?_
    rintro e w' ⟨v, rfl, hown, hbel⟩
    go_wp2
    go_ret
    exact ⟨_, rfl, hown, hbel⟩

theorem txt_at (s : ByteArray) (k : Nat) (h : k < s.size) : (txt s).getD k 0 = ((s[k]'h).toNat : Int) := by
  have h2 : k < s.data.toList.length := by rw [Array.length_toList]; exact h
  unfold txt
  rw [List.getD, List.getElem?_map, List.getElem?_eq_getElem h2]
  rfl

set_option maxHeartbeats 1000000 in
set_option maxRecDepth 100000 in
theorem rputText_any (s : ByteArray) (w : World) (hs : s.size ≤ 140737488351232) :
    Calls Tryd.prog 66 #[.string s] w fun e w' => ∃ v, e = .returned v ∧ w'.ownsRow w.heap.size 5 1 v (enc s.size ++ txt s).length ((enc s.size ++ txt s).map (Value.int .u8)) ∧ Below w.heap.size w w' := by
  obtain ⟨i0, hi, hz0, hz1, hz2⟩ := info_parts Tryd.info5
  have hle := enc_le s.size (by omega)
  have htl := hide (txt_len s)
  go_enter Tryd.func66, Tryd.ntmps66
  go_wp2_with fail
  refine (rputUint_any s.size _ (by omega)).mono ?_
  rintro e w1 ⟨v, rfl, hown, hbel⟩
  have HO := hide hown
  have HB := hide hbel
  clear hown hbel
  go_wp2_with fail
  go_loopw [3, 4] (fun v x wr => ∃ k : Nat, x = .int .i64 (k : Int) ∧ k ≤ s.size ∧ Hid (wr.ownsRow w.heap.size 5 1 v (enc s.size ++ (txt s).take k).length ((enc s.size ++ (txt s).take k).map (Value.int .u8))) ∧ Hid (Below w.heap.size w wr)) (fun _ x _ => s.size - (intOf x).toNat)
  case atStart => exact ⟨0, rfl, by omega, by rw [List.take_zero, List.append_nil]; exact HO, HB⟩
  case round =>
    clear HO HB
    obtain ⟨k, rfl, hk, HO, HB⟩ := hrel
    have hsz := HB.out.size
    by_cases hlt : k < s.size
    · have HT : Hid (enc s.size ++ (txt s).take (k + 1) = (enc s.size ++ (txt s).take k) ++ [((s[k]'hlt).toNat : Int)]) := by
        show _ = _
        rw [take_next (by rw [htl.out]; exact hlt), txt_at s k hlt, List.append_assoc]
      have hpl : (enc s.size ++ (txt s).take k).length ≤ 10 + s.size := by rw [List.length_append, List.length_take, htl.out]; omega
      have HOA := hide (HO.out.alloc (.cells #[.int .u8 ((s[k]'hlt).toNat : Int)] 5))
      generalize enc s.size ++ (txt s).take k = pre at *
      go_wp2_with (first
        | (at_builtin; refine wpList_append_own _ rfl _ _ 22 rfl w.heap.size 5 i0 (.int .u8 0) 1 1 Tryd.underlying22 hi hz0 hz1 hz2 rfl (by decide) _ _ _ rfl HOA.out ⟨wr.heap.size, 0, none⟩ 1 1 [.int .u8 ((s[k]'hlt).toNat : Int)] rfl rfl ?c1 ?c2 ?c3 ?c4 ?c5 ?_))
      case c1 =>
        intro j u hj
        match j, hj with
        | 0, hj => simp at hj; subst hj; simp [Addr.add]
      case c2 => intro u hu; simp at hu; subst hu; rfl
      case c3 => unfold maxLen; omega
      case c4 => omega
      case c5 => simp; omega
      intro v' w2 hown' hgrow _
      have R := push hsz HO.out HB.out hown' hgrow
      rw [← HT.out] at R
      have HO2 := hide R.1
      have HB2 := hide R.2
      clear hown' hgrow R HOA HO HB
      go_wp2
      go_roundw
      case rel => exact ⟨k + 1, by go_num, by omega, HO2, HB2⟩
      case measure => simp [intOf]; omega
    · obtain rfl : k = s.size := by omega
      have HT : Hid ((txt s).take s.size = txt s) := List.take_of_length_le (by rw [htl.out]; omega)
      rw [HT.out] at HO
      go_wp2
      go_ret
      exact ⟨_, rfl, HO.out, HB.out⟩
end Go.Proofs.YtahaecnopeffhabDoor
