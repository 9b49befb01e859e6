/- Texts of the proof, joined. -/
import Derived.Test.YtnogdjpbnhnmaaaGreatDoorJ13
import Derived.Test.YtnogdjpbnhnmaaaGreatDoorJ31
import Derived.Test.YtnogdjpbnhnmaaaGreatDoorJ12
/- The plain mathematics of the document's own Encode; nothing of the program is named here. -/
namespace Go.Wire1
open Go.RowKit

/-- The bytes of one field, by its letter. -/
def partB (b : Int) (c : Cm) : List Int :=
  if b = 99 then enc c.client.toNat else if b = 114 then enc c.req.toNat else if b = 107 then ptx c.key
  else if b = 106 then enc (shared c.key c.key2) ++ ptx (c.key2.extract (shared c.key c.key2) c.key2.size)
  else if b = 111 then ptx c.old else if b = 118 then ptx c.val else enc (zig c.n)
structure PartOk (b : Int) (c : Cm) : Prop where
  client : b = 99 → 0 ≤ c.client ∧ c.client ≤ 65535
  req : b = 114 → 0 ≤ c.req ∧ c.req ≤ 1073741824
  key : b = 107 → 1 ≤ c.key.size ∧ c.key.size ≤ 64
  key2 : b = 106 → 1 ≤ c.key.size ∧ c.key.size ≤ 64 ∧ 1 ≤ c.key2.size ∧ c.key2.size ≤ 64
  old : b = 111 → c.old.size ≤ 65536
  val : b = 118 → c.val.size ≤ 65536
theorem letters (k : Fin 9) (i : Fin 5) : (tb (fldS (k.val : Int)) i.val = 106 → 6 ≤ k.val) ∧ (tb (fldS (k.val : Int)) i.val = 111 → k.val = 5) ∧ (tb (fldS (k.val : Int)) i.val = 118 → k.val = 2 ∨ k.val = 5) := by
  revert k i; decide +kernel
theorem part_ok {c : Cm} (h : Sound c) (hk : c.kind ≠ 0) {i : Nat} (hi : i < 5) : PartOk (tb (fldS c.kind) i) c := by
  obtain ⟨k, hkk⟩ := Int.eq_ofNat_of_zero_le h.k0
  have h8 := h.k8
  obtain ⟨l1, l2, l3⟩ := letters ⟨k, by omega⟩ ⟨i, hi⟩
  simp only at l1 l2 l3
  rw [← hkk] at l1 l2 l3
  have kk := h.key hk
  exact ⟨fun _ => h.client hk, fun _ => h.req hk, fun _ => kk, fun e => by have := l1 e; have := h.key2 (by omega); exact ⟨kk.1, kk.2, this.1, this.2.1⟩, fun e => h.old (by have := l2 e; omega), fun e => h.val (by have := l3 e; omega)⟩
theorem part_len {b : Int} {c : Cm} (h : PartOk b c) (hn : -9223372036854775808 ≤ c.n ∧ c.n ≤ 9223372036854775807) : 1 ≤ (partB b c).length ∧ (partB b c).length ≤ 70000 := by
  have pl : ∀ s : ByteArray, s.size ≤ 65536 → 1 ≤ (ptx s).length ∧ (ptx s).length ≤ 65546 := fun s hs => by
    have := enc_le s.size (by omega)
    unfold ptx; rw [List.length_append, tx_len]; omega
  unfold partB
  split
  · rename_i e
    have := h.client e
    have := enc_le c.client.toNat (by omega)
    omega
  · split
    · rename_i e
      have := h.req e
      have := enc_le c.req.toNat (by omega)
      omega
    · split
      · rename_i e
        have := h.key e
        have := pl c.key (by omega)
        omega
      · split
        · rename_i e
          have hk := h.key2 e
          have sl := shared_le c.key c.key2
          have h1 := enc_le (shared c.key c.key2) (by omega)
          have h2 := pl (c.key2.extract (shared c.key c.key2) c.key2.size) (by rw [ByteArray.size_extract]; omega)
          rw [List.length_append]; omega
        · split
          · rename_i e
            have := pl c.old (h.old e)
            omega
          · split
            · rename_i e
              have := pl c.val (h.val e)
              omega
            · have := enc_le (zig c.n) (zig_lt c.n hn.1 hn.2)
              omega
def preB (c : Cm) (i : Nat) : List Int := [c.kind] ++ (List.range i).flatMap fun j => partB (tb (fldS c.kind) j) c
theorem preB_next (c : Cm) (i : Nat) : preB c (i + 1) = preB c i ++ partB (tb (fldS c.kind) i) c := by
  unfold preB
  rw [List.range_succ, List.flatMap_append, ← List.append_assoc]; simp
theorem preB_all {c : Cm} (h0 : 0 ≤ c.kind) (h8 : c.kind ≤ 8) : preB c (fldS c.kind).size = encC c := by
  obtain ⟨kind, client, req, key, key2, val, old, n⟩ := c
  simp only at h0 h8
  rcases (by omega : kind = 0 ∨ kind = 1 ∨ kind = 2 ∨ kind = 3 ∨ kind = 4 ∨ kind = 5 ∨ kind = 6 ∨ kind = 7 ∨ kind = 8) with rfl | rfl | rfl | rfl | rfl | rfl | rfl | rfl | rfl
  · rfl
  all_goals
    first
    | (rw [show (fldS _).size = 3 from rfl]; simp [preB, encC, restC, List.range_succ, partB, show tb (fldS 1) 0 = 99 from rfl, show tb (fldS 1) 1 = 114 from rfl, show tb (fldS 1) 2 = 107 from rfl]; done)
    | (rw [show (fldS _).size = 3 from rfl]; simp [preB, encC, restC, List.range_succ, partB, show tb (fldS 3) 0 = 99 from rfl, show tb (fldS 3) 1 = 114 from rfl, show tb (fldS 3) 2 = 107 from rfl]; done)
    | (rw [show (fldS _).size = 4 from rfl]; simp [preB, encC, restC, List.range_succ, partB, show tb (fldS 2) 0 = 99 from rfl, show tb (fldS 2) 1 = 114 from rfl, show tb (fldS 2) 2 = 107 from rfl, show tb (fldS 2) 3 = 118 from rfl]; done)
    | (rw [show (fldS _).size = 4 from rfl]; simp [preB, encC, restC, List.range_succ, partB, show tb (fldS 4) 0 = 99 from rfl, show tb (fldS 4) 1 = 114 from rfl, show tb (fldS 4) 2 = 107 from rfl, show tb (fldS 4) 3 = 110 from rfl]; done)
    | (rw [show (fldS _).size = 4 from rfl]; simp [preB, encC, restC, List.range_succ, partB, show tb (fldS 6) 0 = 99 from rfl, show tb (fldS 6) 1 = 114 from rfl, show tb (fldS 6) 2 = 107 from rfl, show tb (fldS 6) 3 = 106 from rfl]; done)
    | (rw [show (fldS _).size = 4 from rfl]; simp [preB, encC, restC, List.range_succ, partB, show tb (fldS 7) 0 = 99 from rfl, show tb (fldS 7) 1 = 114 from rfl, show tb (fldS 7) 2 = 107 from rfl, show tb (fldS 7) 3 = 106 from rfl]; done)
    | (rw [show (fldS _).size = 4 from rfl]; simp [preB, encC, restC, List.range_succ, partB, show tb (fldS 8) 0 = 99 from rfl, show tb (fldS 8) 1 = 114 from rfl, show tb (fldS 8) 2 = 107 from rfl, show tb (fldS 8) 3 = 106 from rfl]; done)
    | (rw [show (fldS _).size = 5 from rfl]; simp [preB, encC, restC, List.range_succ, partB, show tb (fldS 5) 0 = 99 from rfl, show tb (fldS 5) 1 = 114 from rfl, show tb (fldS 5) 2 = 107 from rfl, show tb (fldS 5) 3 = 111 from rfl, show tb (fldS 5) 4 = 118 from rfl]; done)
end Go.Wire1
/- The contracts of the document's own PutUint, PutInt and PutText. -/
namespace Go.Proofs.YtnogdjpbnhnmaaaGreatDoor
open Go.RowKit Go.Wire1 Go.Lib

set_option maxHeartbeats 400000 in
set_option maxRecDepth 100000 in
theorem rputUint_any (x : Nat) (w : World) (hx : x < 18446744073709551616) :
    Calls Tryz.prog 64 #[.int .u64 (x : Int)] w fun e w' => ∃ v, e = .returned v ∧ w'.ownsRow w.heap.size 5 1 v (enc x).length ((enc x).map (Value.int .u8)) ∧ Below w.heap.size w w' := by
  obtain ⟨i0, hi, hz0, hz1, hz2⟩ := info_parts Tryz.info5
  go_enter Tryz.func64, Tryz.ntmps64
  go_wp2
  go_loopw [0, 3] (fun s v wr => ∃ (y : Nat) (pre : List Int) (f : Nat), s = .int .u64 (y : Int) ∧ y < 18446744073709551616 ∧ Hid (y < 128 ^ (f + 1)) ∧ pre.length + f = 9 ∧ Hid (pre ++ encF (f + 1) y = enc x) ∧ wr.ownsRow w.heap.size 5 1 v pre.length (pre.map (Value.int .u8)) ∧ Below w.heap.size w wr)
    (fun s _ _ => (RowKit.intOf s).toNat)
  case atStart => exact ⟨x, [], 9, rfl, hx, pow10 x hx, rfl, rfl, World.ownsRow_nil _ _ _ _, Below.refl _ _⟩
  case round =>
    obtain ⟨y, pre, f, rfl, hy, HP, hf, HE, hown, hbel⟩ := hrel
    have hsz := hbel.size
    have hpl : pre.length ≤ 9 := by omega
    have HF : Hid (pre.length + f = 9) := hf
    clear hf
    by_cases hc : 128 ≤ y
    · have em : (y : Int) % 128 = ((y % 128 : Nat) : Int) := by omega
      have hm : y % 128 < 128 := Nat.mod_lt _ (by decide)
      obtain ⟨m, hmm⟩ : ∃ m, Hid (y % 128 = m) := ⟨_, hide rfl⟩
      rw [hmm.out] at em hm
      go_wp2_with (first
        | (at_builtin; refine wpList_append_own _ rfl _ _ 22 rfl w.heap.size 5 i0 (.int .u8 0) 1 1 Tryz.underlying22 hi hz0 hz1 hz2 rfl (by decide) _ _ _ rfl (hown.alloc _) ⟨wr.heap.size, 0, none⟩ 1 1 [.int .u8 (128 + (m : Int))] rfl rfl ?c1 ?c2 ?c3 ?c4 ?c5 ?_))
      case c1 =>
        intro j u hj
        match j, hj with
        | 0, hj => simp at hj; subst hj; simp [Addr.add]
      case c2 => intro u hu; simp at hu; subst hu; rfl
      case c3 => unfold maxLen; omega
      case c4 => omega
      case c5 => simp; omega
      intro v' w1 hown' hgrow _
      have e128 : 128 + (m : Int) = ((y % 128 + 128 : Nat) : Int) := by rw [hmm.out]; omega
      rw [e128] at hown'
      have R := push hsz hown hbel hown' hgrow
      clear hown' hgrow hown
      obtain ⟨g, rfl, hg⟩ := pow128 f y HP.out hc
      have HG : Hid (y / 128 < 128 ^ (g + 1)) := hg
      clear hg e128
      go_wp2
      go_roundw
      case rel => exact ⟨y / 128, pre ++ [((y % 128 + 128 : Nat) : Int)], g, by go_num, by omega, HG, by have := HF.out; simp; omega, by have := HE.out; rw [encF_big _ _ hc] at this; simpa [Hid] using this, R.1, R.2⟩
      case measure => simp [RowKit.intOf]; omega
    · go_wp2_with (first
        | (at_builtin; refine wpList_append_own _ rfl _ _ 22 rfl w.heap.size 5 i0 (.int .u8 0) 1 1 Tryz.underlying22 hi hz0 hz1 hz2 rfl (by decide) _ _ _ rfl (hown.alloc _) ⟨wr.heap.size, 0, none⟩ 1 1 [.int .u8 (y : Int)] rfl rfl ?d1 ?d2 ?d3 ?d4 ?d5 ?_))
      case d1 =>
        intro j u hj
        match j, hj with
        | 0, hj => simp at hj; subst hj; simp [Addr.add]
      case d2 => intro u hu; simp at hu; subst hu; rfl
      case d3 => unfold maxLen; omega
      case d4 => omega
      case d5 => simp; omega
      intro v' w1 hown' hgrow _
      have R := push hsz hown hbel hown' hgrow
      clear hown' hgrow hown
      have HQ : Hid (pre ++ [(y : Int)] = enc x) := by have := HE.out; rw [encF_small _ _ (by omega)] at this; exact this
      go_wp2
      go_ret
      rw [HQ.out] at R
      exact ⟨_, rfl, R.1, R.2⟩

theorem zig_nonneg (x : Int) (h : 0 ≤ x) : 2 * x = ((zig x : Nat) : Int) := by rw [zig, if_pos h]; omega
theorem zig_below (x : Int) (h : x < 0) : 2 * (-(x + 1)) + 1 = ((zig x : Nat) : Int) := by rw [zig, if_neg (by omega)]; omega

set_option maxHeartbeats 400000 in
set_option maxRecDepth 100000 in
theorem rputInt_any (x : Int) (w : World) (h1 : -9223372036854775808 ≤ x) (h2 : x ≤ 9223372036854775807) :
    Calls Tryz.prog 71 #[.int .i64 x] w fun e w' => ∃ v, e = .returned v ∧ w'.ownsRow w.heap.size 5 1 v (enc (zig x)).length ((enc (zig x)).map (Value.int .u8)) ∧ Below w.heap.size w w' := by
  have hz := zig_lt x h1 h2
  by_cases hc : 0 ≤ x
  · have e := zig_nonneg x hc
    obtain ⟨z, hzz⟩ : ∃ z, Hid (zig x = z) := ⟨_, hide rfl⟩
    rw [hzz.out] at e hz ⊢
    have HE := hide e
    clear e
    go_enter Tryz.func71, Tryz.ntmps71
    go_wp2_with fail
    rw [HE.out]
    refine (rputUint_any z _ hz).mono ?_
    rintro e w' ⟨v, rfl, hown, hbel⟩
    go_wp2
    go_ret
    exact ⟨_, rfl, hown, hbel⟩
  · have e := zig_below x (by omega)
    obtain ⟨z, hzz⟩ : ∃ z, Hid (zig x = z) := ⟨_, hide rfl⟩
    rw [hzz.out] at e hz ⊢
    have HE := hide e
    clear e
    go_enter Tryz.func71, Tryz.ntmps71
    go_wp2_with fail
    rw [HE.out]
    refine (rputUint_any z _ hz).mono ?_
    rintro e w' ⟨v, rfl, hown, hbel⟩
    go_wp2
    go_ret
    exact ⟨_, rfl, hown, hbel⟩

theorem txt_at (s : ByteArray) (k : Nat) (h : k < s.size) : (txt s).getD k 0 = ((s[k]'h).toNat : Int) := by
  have h2 : k < s.data.toList.length := by rw [Array.length_toList]; exact h
  unfold txt
  rw [List.getD, List.getElem?_map, List.getElem?_eq_getElem h2]
  rfl

set_option maxHeartbeats 1000000 in
set_option maxRecDepth 100000 in
theorem rputText_any (s : ByteArray) (w : World) (hs : s.size ≤ 140737488351232) :
    Calls Tryz.prog 107 #[.string s] w fun e w' => ∃ v, e = .returned v ∧ w'.ownsRow w.heap.size 5 1 v (enc s.size ++ txt s).length ((enc s.size ++ txt s).map (Value.int .u8)) ∧ Below w.heap.size w w' := by
  obtain ⟨i0, hi, hz0, hz1, hz2⟩ := info_parts Tryz.info5
  have hle := enc_le s.size (by omega)
  have htl := hide (txt_len s)
  go_enter Tryz.func107, Tryz.ntmps107
  go_wp2_with fail
  refine (rputUint_any s.size _ (by omega)).mono ?_
  rintro e w1 ⟨v, rfl, hown, hbel⟩
  have HO := hide hown
  have HB := hide hbel
  clear hown hbel
  go_wp2_with fail
  go_loopw [3, 4] (fun v x wr => ∃ k : Nat, x = .int .i64 (k : Int) ∧ k ≤ s.size ∧ Hid (wr.ownsRow w.heap.size 5 1 v (enc s.size ++ (txt s).take k).length ((enc s.size ++ (txt s).take k).map (Value.int .u8))) ∧ Hid (Below w.heap.size w wr)) (fun _ x _ => s.size - (RowKit.intOf x).toNat)
  case atStart => exact ⟨0, rfl, by omega, by rw [List.take_zero, List.append_nil]; exact HO, HB⟩
  case round =>
    clear HO HB
    obtain ⟨k, rfl, hk, HO, HB⟩ := hrel
    have hsz := HB.out.size
    by_cases hlt : k < s.size
    · have HT : Hid (enc s.size ++ (txt s).take (k + 1) = (enc s.size ++ (txt s).take k) ++ [((s[k]'hlt).toNat : Int)]) := by
        show _ = _
        rw [take_next (by rw [htl.out]; exact hlt), txt_at s k hlt, List.append_assoc]
      have hpl : (enc s.size ++ (txt s).take k).length ≤ 10 + s.size := by rw [List.length_append, List.length_take, htl.out]; omega
      have HOA := hide (HO.out.alloc (.cells #[.int .u8 ((s[k]'hlt).toNat : Int)] 5))
      generalize enc s.size ++ (txt s).take k = pre at *
      go_wp2_with (first
        | (at_builtin; refine wpList_append_own _ rfl _ _ 22 rfl w.heap.size 5 i0 (.int .u8 0) 1 1 Tryz.underlying22 hi hz0 hz1 hz2 rfl (by decide) _ _ _ rfl HOA.out ⟨wr.heap.size, 0, none⟩ 1 1 [.int .u8 ((s[k]'hlt).toNat : Int)] rfl rfl ?c1 ?c2 ?c3 ?c4 ?c5 ?_))
      case c1 =>
        intro j u hj
        match j, hj with
        | 0, hj => simp at hj; subst hj; simp [Addr.add]
      case c2 => intro u hu; simp at hu; subst hu; rfl
      case c3 => unfold maxLen; omega
      case c4 => omega
      case c5 => simp; omega
      intro v' w2 hown' hgrow _
      have R := push hsz HO.out HB.out hown' hgrow
      rw [← HT.out] at R
      have HO2 := hide R.1
      have HB2 := hide R.2
      clear hown' hgrow R HOA HO HB
      go_wp2
      go_roundw
      case rel => exact ⟨k + 1, by go_num, by omega, HO2, HB2⟩
      case measure => simp [RowKit.intOf]; omega
    · obtain rfl : k = s.size := by omega
      have HT : Hid ((txt s).take s.size = txt s) := List.take_of_length_le (by rw [htl.out]; omega)
      rw [HT.out] at HO
      go_wp2
      go_ret
      exact ⟨_, rfl, HO.out, HB.out⟩
end Go.Proofs.YtnogdjpbnhnmaaaGreatDoor
