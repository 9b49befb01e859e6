/- The contract of a stream's Feed. -/
import Derived.Test.YtiajkdjljilndaaDoorFrPay2
import Derived.WalkMore
namespace Go.Proofs.YtiajkdjljilndaaDoor
open Go.RowKit Go.Wire1 Go.Crc2 Go.Frm

def slen : Value → Nat
  | .slice _ n _ => n
  | _ => 0
def pay3 : Option Value → Nat
  | some (.int _ z) => if z = 3 then 1 else 0
  | _ => 0
theorem pay3_le (o : Option Value) : pay3 o ≤ 1 := by
  unfold pay3
  repeat' split
  all_goals omega
def inPay (w : World) (b : Nat) : Nat := pay3 (w.cell? ⟨b, 4, none⟩)
theorem inPay_le (w : World) (b : Nat) : inPay w b ≤ 1 := pay3_le _
theorem inPay_one {w : World} {b : Nat} (h : w.cell? ⟨b, 4, none⟩ = some (.int .i64 3)) : inPay w b = 1 := by unfold inPay; rw [h]; rfl
theorem inPay_four {w : World} {b : Nat} (h : w.cell? ⟨b, 4, none⟩ = some (.int .i64 4)) : inPay w b = 0 := by unfold inPay; rw [h]; rfl
/-- What Feed has come to behind k bytes of the chunk. -/
structure Fd (w wr : World) (b v pl : Nat) (h l : List Int) (pv : Value) (E0 k : Nat) (s1 : Sm) (pv1 : Value) : Prop where
  le : k ≤ l.length
  came : Came v pl (h ++ l.take k) s1
  stp : Stp w wr b s1 pv pv1 E0
theorem take_add {l : List Int} (k m : Nat) : l.take (k + m) = l.take k ++ (l.drop k).take m := List.take_add
theorem Fd.next {w wr w2 : World} {b v pl : Nat} {h l : List Int} {pv : Value} {E0 k m : Nat} {s1 s2 : Sm} {pv1 pv2 : Value} (F : Fd w wr b v pl h l pv E0 k s1 pv1) (hm : k + m ≤ l.length) (hc : Came v pl ((h ++ l.take k) ++ (l.drop k).take m) s2) (hs : Stp wr w2 b s2 pv1 pv2 E0) :
    Fd w w2 b v pl h l pv E0 (k + m) s2 pv2 := ⟨hm, by rw [take_add, ← List.append_assoc]; exact hc, F.stp.trans hs⟩
theorem slice_eq {a a' : Option Addr} {n n' c c' : Nat} (h1 : a = a') (h2 : n = n') (h3 : c = c') : Value.slice a n c = .slice a' n' c' := by rw [h1, h2, h3]
theorem at_eq {c o o' : Nat} (h : o = o') : (some ⟨c, o, none⟩ : Option Addr) = some ⟨c, o', none⟩ := by rw [h]
theorem drop_one {l : List Int} {k : Nat} (hk : k < l.length) : (l.drop k).take 1 = [l.getD k 0] := by rw [drop_cons hk]; rfl
theorem live_bounds {v pl : Nat} {h : List Int} {s : Sm} (L : Liv v pl h s) : s.held ≤ 1048586 ∧ (s.part = 0 → s.held < 2) ∧ (s.part = 1 → s.held < 6) ∧ (s.part = 2 → 3 ≤ s.held ∧ s.held < 6) ∧ (s.part = 3 → s.left ≤ 1048576 ∧ s.pay.length + s.left ≤ 1048576) ∧ (s.part = 3 → s.left = 0 → s.pay = []) ∧ (s.part = 4 → 0 < s.left ∧ s.left ≤ 4) := by
  have hh := L.held
  rcases L.which with ⟨p, _, hl, _⟩ | ⟨p, _, e, _⟩ | ⟨p, _, t, e, e', _⟩ | ⟨p, n, hd, H, e, hn, h0, hs⟩ | ⟨p, n, hd, c, H, e, hn, hc, h0, e', hs⟩
  · refine ⟨by omega, fun _ => by omega, fun q => by omega, fun q => by omega, fun q => by omega, fun q => by omega, fun q => by omega⟩
  · rw [e] at hh; simp at hh
    refine ⟨by omega, fun q => by omega, fun _ => by omega, fun q => by omega, fun q => by omega, fun q => by omega, fun q => by omega⟩
  · have hx : Byt (t ++ [0]) := byt_app (fun z hz => L.byt z (by rw [e]; exact List.mem_append_right _ hz)) (fun z hz => by simp at hz; omega)
    have ht := (dec_ln 0 hx e').1
    rw [e] at hh; simp at hh
    refine ⟨by omega, fun q => by omega, fun q => by omega, fun _ => by omega, fun q => by omega, fun q => by omega, fun q => by omega⟩
  · have hb := hd_byt_len H (fun z hz => L.byt z (by rw [e]; exact List.mem_append_left _ hz))
    rw [e] at hh; simp at hh
    refine ⟨by omega, fun q => by omega, fun q => by omega, fun q => by omega, fun _ => by omega, fun _ q => ?_, fun q => by omega⟩
    apply List.length_eq_zero_iff.1; omega
  · have hb := hd_byt_len H (fun z hz => L.byt z (by rw [e, List.append_assoc]; exact List.mem_append_left _ hz))
    rw [e] at hh; simp at hh
    refine ⟨by omega, fun q => by omega, fun q => by omega, fun q => by omega, fun q => by omega, fun q => by omega, fun _ => by omega⟩
theorem lat_apart {w : World} {c : Nat} {r r' : Option Nat} (L : Lat r r' w) (h : some c ≠ r) (hc : c < w.heap.size) : some c ≠ r' := by
  rcases L with rfl | L
  · exact h
  · intro e; have := L c e.symm; omega
theorem live_part {v pl : Nat} {h : List Int} {s : Sm} (L : Liv v pl h s) : s.part = 0 ∨ s.part = 1 ∨ s.part = 2 ∨ s.part = 3 ∨ s.part = 4 := by
  rcases L.which with ⟨p, _⟩ | ⟨p, _⟩ | ⟨p, _⟩ | ⟨p, _⟩ | ⟨p, _⟩ <;> omega
theorem keep_byt {v pl : Nat} {h : List Int} {s : Sm} (L : Liv v pl h s) (hp : s.part = 2) (x : Int) (hx : 0 ≤ x ∧ x < 256) : Byt ((s.keep x).head.take (s.held + 1)) := by
  obtain ⟨hpay, t, e, e', e''⟩ := L.at2 hp
  have hb := (live_bounds L).2.2.2.1 hp
  rw [L.held] at hb ⊢
  have := take_set (x := x) (by rw [L.six]; exact hb.2 : h.length < s.head.length) e''
  simp only [Sm.keep, L.held]
  rw [this]
  exact byt_snoc L.byt hx

set_option maxHeartbeats 8000000 in
set_option maxRecDepth 100000 in
theorem feed_live (w : World) (b : Nat) (s : Sm) (pv : Value) (E0 : Nat) (v pl : Nat) (h : List Int) (sa : Option Addr) (n cap : Nat) (l : List Int) (a : Nat → Addr) (hS : Str w b s pv E0) (hL : Liv v pl h s) (hs : Seg w sa n l) (hnc : n ≤ cap) (hc63 : cap ≤ maxLen) (hy : Byt l) (hsep : ∀ x, sa = some x → 0 < n → x.block ≠ b ∧ some x.block ≠ pv.ownBlock) (en : Env w a E0) :
    Calls Tryd.prog 21 #[.pointer (some ⟨b, 0, none⟩), .slice sa n cap] w fun r w' => ∃ (k : Nat) (s1 : Sm) (pv1 : Value), r = .returned (.int .i64 (k : Int)) ∧ Fd w w' b v pl h l pv E0 k s1 pv1 ∧ (k = l.length ∨ s1.part = 5 ∨ s1.part = 6) := by
  have hn : Hid (l.length = n) := hs.1
  have HS := hide hs
  have HY := hide hy
  have HEN := hide en
  have HSEP := hide hsep
  have HSTR := hide hS
  have F0 : Hid (Fd w w b v pl h l pv E0 0 s pv) := ⟨Nat.zero_le _, by rw [List.take_zero, List.append_nil]; exact .inl hL, ⟨hS, Tch.refl _ _ _, Lat.refl _ _⟩⟩
  unfold maxLen at hc63
  clear hs hy en hsep hS hL
  obtain ⟨B0, hB0⟩ : ∃ B0 : Nat → Option Addr → Prop, B0 = fun k sa' => k < n → ∃ c off, sa = some ⟨c, off, none⟩ ∧ sa' = some ⟨c, off + k, none⟩ := ⟨_, rfl⟩
  have HB0 := hide hB0
  have hst : Hid (B0 0 sa) := by
    show B0 0 sa
    rw [hB0]
    intro hk
    obtain ⟨c, off, rfl, _⟩ := HS.out.2.2 hk
    exact ⟨c, off, rfl, rfl⟩
  clear hB0
  go_enter Tryd.func21, Tryd.ntmps21
  go_wp2
  go_step3
  go_wp2
  go_step3
  go_wp2
  go_loopw [5] (fun r wr => ∃ (k : Nat) (sa' : Option Addr) (s1 : Sm) (pv1 : Value), r = .slice sa' (n - k) (cap - k) ∧ k ≤ n ∧ Hid (B0 k sa') ∧ Hid (Fd w wr b v pl h l pv E0 k s1 pv1)) (fun r wr => 2 * slen r + inPay wr b)
  case atStart => exact ⟨0, sa, s, pv, rfl, Nat.zero_le _, hst, F0⟩
  case round =>
    obtain ⟨k, sa', s1, pv1, rfl, hk, hsa, F⟩ := hrel
    by_cases hlt : k < n
    · obtain ⟨c, off, hsaE0, rfl⟩ : ∃ c off, sa = some ⟨c, off, none⟩ ∧ sa' = some ⟨c, off + k, none⟩ := by have := hsa.out; rw [HB0.out] at this; exact this hlt
      have hsaE := hide hsaE0
      have SGw := F.out.stp.tch.seg HS.out HSEP.out
      rw [hsaE0] at SGw
      have SG := hide (SGw.from hk)
      have EN1 := hide (HEN.out.below (F.out.stp.below HSTR.out))
      have hsp0 := HSEP.out _ hsaE0 (by omega)
      have hcl : c < w.heap.size := HS.out.lt (by omega) hsaE0
      have hsp := hide (show c ≠ b ∧ some c ≠ pv1.ownBlock from ⟨hsp0.1, lat_apart F.out.stp.lat hsp0.2 hcl⟩)
      have hx := byt_at HY.out k
      have hll : k < l.length := by have := hn.out; omega
      have hd1 := hide (drop_one hll)
      have cx : wr.cell? ⟨c, off + k, none⟩ = some (.int .u8 (l.getD k 0)) := by
        obtain ⟨c', o', e, hcell⟩ := SGw.2.2 (by omega)
        cases e
        exact hcell k hlt
      have HX := hide hx
      clear SGw hsaE0 hsp0 hcl hx hll
      rcases F.out.came with L | W | ⟨e, hse, he⟩
      · have LB := hide (live_bounds L)
        have HLV := hide L
        rcases live_part L with hp | hp | hp | hp | hp
        all_goals clear L
        · skip
          by_cases hend : cap - k = 1
          · have c4 : wr.cell? ⟨b, 4, none⟩ = some (.int .i64 0) := by have := F.out.stp.str.at_ 4 _ rfl; rw [hp] at this; exact this
            have HC := hide (takeMagic_any wr b s1 pv1 E0 (l.getD k 0) F.out.stp.str (LB.out.2.1 hp))
            have CM := hide (show Came v pl ((h ++ l.take k) ++ (l.drop k).take 1) _ by rw [hd1.out]; exact HLV.out.magic (l.getD k 0) HX.out hp)
            have PB := hide (inPay_le wr b)
            have HE := hide hend
            clear hp hend
            go_wp2_with fail
            refine HC.out.mono ?_
            rintro r w2 ⟨rfl, pv2, S2⟩
            have F2 := hide (F.out.next (m := 1) (by have := hn.out; omega) CM.out S2)
            have PB2 := hide (inPay_le w2 b)
            clear S2 HC c4
            have hend := HE.out
            go_wp2
            go_roundw
            case rel => exact ⟨k + 1, some ⟨c, off + k, none⟩, _, pv2, slice_eq (at_eq (by omega)) (by omega) (by omega), by omega, by show B0 _ _; rw [HB0.out]; intro q; exfalso; omega, F2⟩
            case measure => have := PB.out; have := PB2.out; simp only [slen]; omega
          · have c4 : wr.cell? ⟨b, 4, none⟩ = some (.int .i64 0) := by have := F.out.stp.str.at_ 4 _ rfl; rw [hp] at this; exact this
            have HC := hide (takeMagic_any wr b s1 pv1 E0 (l.getD k 0) F.out.stp.str (LB.out.2.1 hp))
            have CM := hide (show Came v pl ((h ++ l.take k) ++ (l.drop k).take 1) _ by rw [hd1.out]; exact HLV.out.magic (l.getD k 0) HX.out hp)
            have PB := hide (inPay_le wr b)
            have HE := hide hend
            clear hp hend
            go_wp2_with fail
            refine HC.out.mono ?_
            rintro r w2 ⟨rfl, pv2, S2⟩
            have F2 := hide (F.out.next (m := 1) (by have := hn.out; omega) CM.out S2)
            have PB2 := hide (inPay_le w2 b)
            clear S2 HC c4
            have hend := HE.out
            go_wp2
            go_roundw
            case rel => exact ⟨k + 1, some ⟨c, off + (k + 1), none⟩, _, pv2, slice_eq (at_eq (by omega)) (by omega) (by omega), by omega, by show B0 _ _; rw [HB0.out]; intro q; exact ⟨c, off, hsaE.out, rfl⟩, F2⟩
            case measure => have := PB.out; have := PB2.out; simp only [slen]; omega
        · skip
          by_cases hend : cap - k = 1
          · have c4 : wr.cell? ⟨b, 4, none⟩ = some (.int .i64 1) := by have := F.out.stp.str.at_ 4 _ rfl; rw [hp] at this; exact this
            have HC := hide (takeVersion_any wr b s1 pv1 E0 (l.getD k 0) F.out.stp.str (LB.out.2.2.1 hp) HX.out)
            have CM := hide (show Came v pl ((h ++ l.take k) ++ (l.drop k).take 1) _ by rw [hd1.out]; exact HLV.out.version (l.getD k 0) HX.out hp)
            have PB := hide (inPay_le wr b)
            have HE := hide hend
            clear hp hend
            go_wp2_with fail
            refine HC.out.mono ?_
            rintro r w2 ⟨rfl, pv2, S2⟩
            have F2 := hide (F.out.next (m := 1) (by have := hn.out; omega) CM.out S2)
            have PB2 := hide (inPay_le w2 b)
            clear S2 HC c4
            have hend := HE.out
            go_wp2
            go_roundw
            case rel => exact ⟨k + 1, some ⟨c, off + k, none⟩, _, pv2, slice_eq (at_eq (by omega)) (by omega) (by omega), by omega, by show B0 _ _; rw [HB0.out]; intro q; exfalso; omega, F2⟩
            case measure => have := PB.out; have := PB2.out; simp only [slen]; omega
          · have c4 : wr.cell? ⟨b, 4, none⟩ = some (.int .i64 1) := by have := F.out.stp.str.at_ 4 _ rfl; rw [hp] at this; exact this
            have HC := hide (takeVersion_any wr b s1 pv1 E0 (l.getD k 0) F.out.stp.str (LB.out.2.2.1 hp) HX.out)
            have CM := hide (show Came v pl ((h ++ l.take k) ++ (l.drop k).take 1) _ by rw [hd1.out]; exact HLV.out.version (l.getD k 0) HX.out hp)
            have PB := hide (inPay_le wr b)
            have HE := hide hend
            clear hp hend
            go_wp2_with fail
            refine HC.out.mono ?_
            rintro r w2 ⟨rfl, pv2, S2⟩
            have F2 := hide (F.out.next (m := 1) (by have := hn.out; omega) CM.out S2)
            have PB2 := hide (inPay_le w2 b)
            clear S2 HC c4
            have hend := HE.out
            go_wp2
            go_roundw
            case rel => exact ⟨k + 1, some ⟨c, off + (k + 1), none⟩, _, pv2, slice_eq (at_eq (by omega)) (by omega) (by omega), by omega, by show B0 _ _; rw [HB0.out]; intro q; exact ⟨c, off, hsaE.out, rfl⟩, F2⟩
            case measure => have := PB.out; have := PB2.out; simp only [slen]; omega
        · skip
          by_cases hend : cap - k = 1
          · have c4 : wr.cell? ⟨b, 4, none⟩ = some (.int .i64 2) := by have := F.out.stp.str.at_ 4 _ rfl; rw [hp] at this; exact this
            have HC := hide (takeLength_any wr b s1 pv1 E0 (l.getD k 0) a F.out.stp.str (LB.out.2.2.2.1 hp).1 (LB.out.2.2.2.1 hp).2 (keep_byt HLV.out hp _ HX.out) EN1.out)
            have CM := hide (show Came v pl ((h ++ l.take k) ++ (l.drop k).take 1) _ by rw [hd1.out]; exact HLV.out.length (l.getD k 0) HX.out hp)
            have PB := hide (inPay_le wr b)
            have HE := hide hend
            clear hp hend
            go_wp2_with fail
            refine HC.out.mono ?_
            rintro r w2 ⟨rfl, pv2, S2⟩
            have F2 := hide (F.out.next (m := 1) (by have := hn.out; omega) CM.out S2)
            have PB2 := hide (inPay_le w2 b)
            clear S2 HC c4
            have hend := HE.out
            go_wp2
            go_roundw
            case rel => exact ⟨k + 1, some ⟨c, off + k, none⟩, _, pv2, slice_eq (at_eq (by omega)) (by omega) (by omega), by omega, by show B0 _ _; rw [HB0.out]; intro q; exfalso; omega, F2⟩
            case measure => have := PB.out; have := PB2.out; simp only [slen]; omega
          · have c4 : wr.cell? ⟨b, 4, none⟩ = some (.int .i64 2) := by have := F.out.stp.str.at_ 4 _ rfl; rw [hp] at this; exact this
            have HC := hide (takeLength_any wr b s1 pv1 E0 (l.getD k 0) a F.out.stp.str (LB.out.2.2.2.1 hp).1 (LB.out.2.2.2.1 hp).2 (keep_byt HLV.out hp _ HX.out) EN1.out)
            have CM := hide (show Came v pl ((h ++ l.take k) ++ (l.drop k).take 1) _ by rw [hd1.out]; exact HLV.out.length (l.getD k 0) HX.out hp)
            have PB := hide (inPay_le wr b)
            have HE := hide hend
            clear hp hend
            go_wp2_with fail
            refine HC.out.mono ?_
            rintro r w2 ⟨rfl, pv2, S2⟩
            have F2 := hide (F.out.next (m := 1) (by have := hn.out; omega) CM.out S2)
            have PB2 := hide (inPay_le w2 b)
            clear S2 HC c4
            have hend := HE.out
            go_wp2
            go_roundw
            case rel => exact ⟨k + 1, some ⟨c, off + (k + 1), none⟩, _, pv2, slice_eq (at_eq (by omega)) (by omega) (by omega), by omega, by show B0 _ _; rw [HB0.out]; intro q; exact ⟨c, off, hsaE.out, rfl⟩, F2⟩
            case measure => have := PB.out; have := PB2.out; simp only [slen]; omega
        · have hb5 := LB.out.2.2.2.2.1 hp
          by_cases h0 : s1.left = 0
          · have c4 : wr.cell? ⟨b, 4, none⟩ = some (.int .i64 3) := by have := F.out.stp.str.at_ 4 _ rfl; rw [hp] at this; exact this
            have HC := hide (takePayload_none wr b s1 pv1 E0 (some ⟨c, off + k, none⟩) (n - k) (cap - k) (l.drop k) a F.out.stp.str SG.out (by omega) (byt_drop HY.out k) (by omega) (fun x e _ => by cases e; exact hsp.out) EN1.out (by have := LB.out.1; omega) (LB.out.2.2.2.2.1 hp).1 h0 (LB.out.2.2.2.2.2.1 hp h0))
            have CM : Hid (Came v pl ((h ++ l.take k) ++ (l.drop k).take 0) (s1.tPay ((l.drop k).take 0))) := HLV.out.payl _ (byt_take (byt_drop HY.out k) 0) hp (by simp)
            have PB : Hid (inPay wr b = 1) := inPay_one c4
            have P4 : Hid ((s1.tPay ((l.drop k).take 0)).part = 4) := by show _ = _; rw [Sm.tPay, if_pos (by rw [h0]; simp)]
            have hend : ¬ cap - k = 0 := by omega
            clear hp hb5 h0
            go_wp2_with fail
            refine HC.out.mono ?_
            rintro r w2 ⟨rfl, pv2, S2⟩
            have F2 := hide (F.out.next (m := 0) (by have := hn.out; omega) CM.out S2)
            have PB2 : Hid (inPay w2 b = 0) := inPay_four (by have := S2.str.at_ 4 _ rfl; rw [P4.out] at this; exact this)
            clear S2 HC c4
            go_wp2
            go_roundw
            case rel => exact ⟨k + 0, some ⟨c, off + k, none⟩, _, pv2, slice_eq (at_eq (by omega)) (by omega) (by omega), by omega, hsa, F2⟩
            case measure => have := PB.out; have := PB2.out; simp only [slen]; omega
          · by_cases hle : s1.left ≤ n - k
            · skip
              by_cases hend : cap - k = s1.left
              · have c4 : wr.cell? ⟨b, 4, none⟩ = some (.int .i64 3) := by have := F.out.stp.str.at_ 4 _ rfl; rw [hp] at this; exact this
                have HC := hide (takePayload_all wr b s1 pv1 E0 (some ⟨c, off + k, none⟩) (n - k) (cap - k) (l.drop k) a F.out.stp.str SG.out (by omega) (byt_drop HY.out k) (by omega) (fun x e _ => by cases e; exact hsp.out) EN1.out (by have := LB.out.1; omega) (LB.out.2.2.2.2.1 hp).1 hle (by omega) hb5.2)
                have CM := hide (show Came v pl ((h ++ l.take k) ++ (l.drop k).take s1.left) _ by exact HLV.out.payl _ (byt_take (byt_drop HY.out k) _) hp (by rw [List.length_take]; omega))
                have PB := hide (inPay_le wr b)
                have HE := hide hend
                clear hp hend
                go_wp2_with fail
                refine HC.out.mono ?_
                rintro r w2 ⟨rfl, pv2, S2⟩
                have F2 := hide (F.out.next (m := s1.left) (by have := hn.out; omega) CM.out S2)
                have PB2 := hide (inPay_le w2 b)
                clear S2 HC c4
                have hend := HE.out
                go_wp2
                go_roundw
                case rel => exact ⟨k + s1.left, some ⟨c, off + k, none⟩, _, pv2, slice_eq (at_eq (by omega)) (by omega) (by omega), by omega, by show B0 _ _; rw [HB0.out]; intro q; exfalso; omega, F2⟩
                case measure => have := PB.out; have := PB2.out; simp only [slen]; omega
              · have c4 : wr.cell? ⟨b, 4, none⟩ = some (.int .i64 3) := by have := F.out.stp.str.at_ 4 _ rfl; rw [hp] at this; exact this
                have HC := hide (takePayload_all wr b s1 pv1 E0 (some ⟨c, off + k, none⟩) (n - k) (cap - k) (l.drop k) a F.out.stp.str SG.out (by omega) (byt_drop HY.out k) (by omega) (fun x e _ => by cases e; exact hsp.out) EN1.out (by have := LB.out.1; omega) (LB.out.2.2.2.2.1 hp).1 hle (by omega) hb5.2)
                have CM := hide (show Came v pl ((h ++ l.take k) ++ (l.drop k).take s1.left) _ by exact HLV.out.payl _ (byt_take (byt_drop HY.out k) _) hp (by rw [List.length_take]; omega))
                have PB := hide (inPay_le wr b)
                have HE := hide hend
                clear hp hend
                go_wp2_with fail
                refine HC.out.mono ?_
                rintro r w2 ⟨rfl, pv2, S2⟩
                have F2 := hide (F.out.next (m := s1.left) (by have := hn.out; omega) CM.out S2)
                have PB2 := hide (inPay_le w2 b)
                clear S2 HC c4
                have hend := HE.out
                go_wp2
                go_roundw
                case rel => exact ⟨k + s1.left, some ⟨c, off + (k + s1.left), none⟩, _, pv2, slice_eq (at_eq (by omega)) (by omega) (by omega), by omega, by show B0 _ _; rw [HB0.out]; intro q; exact ⟨c, off, hsaE.out, rfl⟩, F2⟩
                case measure => have := PB.out; have := PB2.out; simp only [slen]; omega
            · skip
              by_cases hend : cap - k = (n - k)
              · have c4 : wr.cell? ⟨b, 4, none⟩ = some (.int .i64 3) := by have := F.out.stp.str.at_ 4 _ rfl; rw [hp] at this; exact this
                have HC := hide (takePayload_part wr b s1 pv1 E0 (some ⟨c, off + k, none⟩) (n - k) (cap - k) (l.drop k) a F.out.stp.str SG.out (by omega) (byt_drop HY.out k) (by omega) (fun x e _ => by cases e; exact hsp.out) EN1.out (by have := LB.out.1; omega) (LB.out.2.2.2.2.1 hp).1 (by omega) hb5.2)
                have CM := hide (show Came v pl ((h ++ l.take k) ++ (l.drop k).take (n - k)) _ by exact HLV.out.payl _ (byt_take (byt_drop HY.out k) _) hp (by rw [List.length_take]; omega))
                have PB := hide (inPay_le wr b)
                have HE := hide hend
                clear hp hend
                go_wp2_with fail
                refine HC.out.mono ?_
                rintro r w2 ⟨rfl, pv2, S2⟩
                have F2 := hide (F.out.next (m := (n - k)) (by have := hn.out; omega) CM.out S2)
                have PB2 := hide (inPay_le w2 b)
                clear S2 HC c4
                have hend := HE.out
                go_wp2
                go_roundw
                case rel => exact ⟨k + (n - k), some ⟨c, off + k, none⟩, _, pv2, slice_eq (at_eq (by omega)) (by omega) (by omega), by omega, by show B0 _ _; rw [HB0.out]; intro q; exfalso; omega, F2⟩
                case measure => have := PB.out; have := PB2.out; simp only [slen]; omega
              · have c4 : wr.cell? ⟨b, 4, none⟩ = some (.int .i64 3) := by have := F.out.stp.str.at_ 4 _ rfl; rw [hp] at this; exact this
                have HC := hide (takePayload_part wr b s1 pv1 E0 (some ⟨c, off + k, none⟩) (n - k) (cap - k) (l.drop k) a F.out.stp.str SG.out (by omega) (byt_drop HY.out k) (by omega) (fun x e _ => by cases e; exact hsp.out) EN1.out (by have := LB.out.1; omega) (LB.out.2.2.2.2.1 hp).1 (by omega) hb5.2)
                have CM := hide (show Came v pl ((h ++ l.take k) ++ (l.drop k).take (n - k)) _ by exact HLV.out.payl _ (byt_take (byt_drop HY.out k) _) hp (by rw [List.length_take]; omega))
                have PB := hide (inPay_le wr b)
                have HE := hide hend
                clear hp hend
                go_wp2_with fail
                refine HC.out.mono ?_
                rintro r w2 ⟨rfl, pv2, S2⟩
                have F2 := hide (F.out.next (m := (n - k)) (by have := hn.out; omega) CM.out S2)
                have PB2 := hide (inPay_le w2 b)
                clear S2 HC c4
                have hend := HE.out
                go_wp2
                go_roundw
                case rel => exact ⟨k + (n - k), some ⟨c, off + (k + (n - k)), none⟩, _, pv2, slice_eq (at_eq (by omega)) (by omega) (by omega), by omega, by show B0 _ _; rw [HB0.out]; intro q; exact ⟨c, off, hsaE.out, rfl⟩, F2⟩
                case measure => have := PB.out; have := PB2.out; simp only [slen]; omega
        · skip
          by_cases hend : cap - k = 1
          · have c4 : wr.cell? ⟨b, 4, none⟩ = some (.int .i64 4) := by have := F.out.stp.str.at_ 4 _ rfl; rw [hp] at this; exact this
            have HC := hide (takeSum_any wr b s1 pv1 E0 (l.getD k 0) F.out.stp.str (LB.out.2.2.2.2.2.2 hp).1 (LB.out.2.2.2.2.2.2 hp).2 (by have := LB.out.1; omega))
            have CM := hide (show Came v pl ((h ++ l.take k) ++ (l.drop k).take 1) _ by rw [hd1.out]; exact HLV.out.summ (l.getD k 0) HX.out hp)
            have PB := hide (inPay_le wr b)
            have HE := hide hend
            clear hp hend
            go_wp2_with fail
            refine HC.out.mono ?_
            rintro r w2 ⟨rfl, pv2, S2⟩
            have F2 := hide (F.out.next (m := 1) (by have := hn.out; omega) CM.out S2)
            have PB2 := hide (inPay_le w2 b)
            clear S2 HC c4
            have hend := HE.out
            go_wp2
            go_roundw
            case rel => exact ⟨k + 1, some ⟨c, off + k, none⟩, _, pv2, slice_eq (at_eq (by omega)) (by omega) (by omega), by omega, by show B0 _ _; rw [HB0.out]; intro q; exfalso; omega, F2⟩
            case measure => have := PB.out; have := PB2.out; simp only [slen]; omega
          · have c4 : wr.cell? ⟨b, 4, none⟩ = some (.int .i64 4) := by have := F.out.stp.str.at_ 4 _ rfl; rw [hp] at this; exact this
            have HC := hide (takeSum_any wr b s1 pv1 E0 (l.getD k 0) F.out.stp.str (LB.out.2.2.2.2.2.2 hp).1 (LB.out.2.2.2.2.2.2 hp).2 (by have := LB.out.1; omega))
            have CM := hide (show Came v pl ((h ++ l.take k) ++ (l.drop k).take 1) _ by rw [hd1.out]; exact HLV.out.summ (l.getD k 0) HX.out hp)
            have PB := hide (inPay_le wr b)
            have HE := hide hend
            clear hp hend
            go_wp2_with fail
            refine HC.out.mono ?_
            rintro r w2 ⟨rfl, pv2, S2⟩
            have F2 := hide (F.out.next (m := 1) (by have := hn.out; omega) CM.out S2)
            have PB2 := hide (inPay_le w2 b)
            clear S2 HC c4
            have hend := HE.out
            go_wp2
            go_roundw
            case rel => exact ⟨k + 1, some ⟨c, off + (k + 1), none⟩, _, pv2, slice_eq (at_eq (by omega)) (by omega) (by omega), by omega, by show B0 _ _; rw [HB0.out]; intro q; exact ⟨c, off, hsaE.out, rfl⟩, F2⟩
            case measure => have := PB.out; have := PB2.out; simp only [slen]; omega
      · have c4 : wr.cell? ⟨b, 4, none⟩ = some (.int .i64 5) := by have := F.out.stp.str.at_ 4 _ rfl; rw [W.part] at this; exact this
        have HW := hide W.part
        clear W
        go_wp2
        rw [Exit.noGoto_ret]
        go_ret
        exact ⟨k, s1, pv1, by simp; omega, F.out, .inr (.inl HW.out)⟩
      · have c4 : wr.cell? ⟨b, 4, none⟩ = some (.int .i64 6) := by have := F.out.stp.str.at_ 4 _ rfl; rw [hse] at this; exact this
        have HW : Hid (s1.part = 6) := by show _ = _; rw [hse]; rfl
        clear hse he
        go_wp2
        rw [Exit.noGoto_ret]
        go_ret
        exact ⟨k, s1, pv1, by simp; omega, F.out, .inr (.inr HW.out)⟩
    · have hz : ¬ (0 < ((n - k : Nat) : Int)) := by omega
      go_wp2
      skip
      go_ret
      exact ⟨k, s1, pv1, by simp; omega, F.out, .inl (by have := hn.out; omega)⟩
end Go.Proofs.YtiajkdjljilndaaDoor
