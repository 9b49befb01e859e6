/- Texts of the proof, joined. -/
import Derived.Test.YtnogdjpbnhnmaaaGreatDoorJ11
import Derived.Test.YtnogdjpbnhnmaaaGreatDoorRows
import Derived.Test.YtnogdjpbnhnmaaaGreatDoorJ01
import Derived.WalkKit
import Derived.Lib.AppendStr
/- The contract of package record's Check. -/
namespace Go.Proofs.YtnogdjpbnhnmaaaGreatDoor
open Go.RowKit Go.Wire1

theorem firstR_next {n : Int} {r : Rc} {xs : List Nat} {p : Nat} (hp : p < xs.length) (h : faultR n r (xs.getD p 0) = 0) : firstR n r (xs.drop p) = firstR n r (xs.drop (p + 1)) := by
  rw [List.getD, List.getElem?_eq_getElem hp, Option.getD_some] at h
  rw [List.drop_eq_getElem_cons hp]
  show (if faultR n r xs[p] = 0 then _ else _) = _
  rw [if_pos h]
theorem firstR_hit {n : Int} {r : Rc} {xs : List Nat} {p : Nat} (hp : p < xs.length) (h : faultR n r (xs.getD p 0) ≠ 0) : firstR n r (xs.drop p) = faultR n r (xs.getD p 0) := by
  rw [List.getD, List.getElem?_eq_getElem hp, Option.getD_some] at h ⊢
  rw [List.drop_eq_getElem_cons hp]
  show (if faultR n r xs[p] = 0 then _ else _) = _
  rw [if_neg h]
theorem lp_iter {w w1 : World} {b : Nat} {r : Rc} (s : ByteArray) (hb : Blk w1 b (rcs r)) (hl : Below w.heap.size w w1) : Lp w (w1.iter s 0) b w1.heap.size s 0 r :=
  ⟨hb.on ((Below.refl _ _).alloc (Nat.le_refl _) _), World.iter_heap _ _ _, hl.alloc hl.size _⟩
theorem kindR_nat {k : Int} (h : isKindR k = true) : ∃ j : Nat, k = (j : Int) ∧ j < 6 := by
  simp only [isKindR, Bool.and_eq_true, decide_eq_true_eq] at h
  exact ⟨k.toNat, by omega, by omega⟩
theorem size_nat {n : Int} (h : isSizeB n = true) : ∃ j : Nat, n = (j : Int) ∧ 1 ≤ j ∧ j ≤ 7 := by
  simp only [isSizeB, Bool.and_eq_true, decide_eq_true_eq] at h
  exact ⟨n.toNat, by omega, by omega, by omega⟩

set_option maxHeartbeats 4000000 in
set_option maxRecDepth 100000 in
theorem recCheck_any (n : Int) (r : Rc) (w : World) (hr : Rok w r) (hR : Rws w) (hK : Knd w) :
    Calls Tryz.prog 25 #[.int .i64 n, .agg (rcs r).toArray] w fun e w' => e = .returned (.int .i64 (chkR n r : Nat)) ∧ Below w.heap.size w w' := by
  obtain ⟨V, hV⟩ : ∃ V, V = w.alloc (.cells (rcs r).toArray 31) := ⟨_, rfl⟩
  have Q : Hid (Blk V w.heap.size (rcs r)) := by rw [hV]; exact blk_new w 31 (rcs r)
  have BV : Hid (Below w.heap.size w V) := by rw [hV]; exact (Below.refl _ _).alloc (Nat.le_refl _) _
  have hVs : w.heap.size ≤ V.heap.size := BV.out.size
  have HR := hide hr
  have HW := hide hR
  have HK := hide hK
  clear hr hR hK
  cases h1 : isSizeB n with
  | false =>
    have HQ : Hid (chkR n r = 3) := by simp [Hid, chkR, h1]
    go_enter Tryz.func25, Tryz.ntmps25
    go_wp2_with fail
    rw [← hV]
    refine (risSize_any n _).mono ?_
    rintro e w1 ⟨rfl, rfl⟩
    rw [h1]
    clear h1 hV
    go_wp2
    go_ret
    exact ⟨by rw [HQ.out]; rfl, BV.out⟩
  | true =>
    cases h2 : isKindR r.kind with
    | false =>
      have HQ : Hid (chkR n r = 61) := by simp [Hid, chkR, h1, h2]
      have q0 : V.cell? ⟨w.heap.size, 0, none⟩ = some (.int .i64 r.kind) := Q.out.cell 0 _ (rcs0 r)
      go_enter Tryz.func25, Tryz.ntmps25
      go_wp2_with fail
      rw [← hV]
      refine (risSize_any n _).mono ?_
      rintro e w1 ⟨rfl, rfl⟩
      rw [h1]
      clear h1 hV
      go_wp2_with fail
      refine (risKind_any r.kind _).mono ?_
      rintro e w1 ⟨rfl, rfl⟩
      rw [h2]
      clear h2
      go_wp2
      go_ret
      exact ⟨by rw [HQ.out]; rfl, BV.out⟩
    | true =>
      have q0 : V.cell? ⟨w.heap.size, 0, none⟩ = some (.int .i64 r.kind) := Q.out.cell 0 _ (rcs0 r)
      cases h3 : extraR r with
      | true =>
        have HQ : Hid (chkR n r = 67) := by simp [Hid, chkR, h1, h2, h3]
        have H2 := hide h2
        go_enter Tryz.func25, Tryz.ntmps25
        go_wp2_with fail
        rw [← hV]
        refine (risSize_any n _).mono ?_
        rintro e w1 ⟨rfl, rfl⟩
        rw [h1]
        clear h1 hV
        go_wp2_with fail
        refine (risKind_any r.kind _).mono ?_
        rintro e w1 ⟨rfl, rfl⟩
        rw [h2]
        clear h2
        go_wp2_with (first | (refine wpList_load_mid rfl 31 _ rfl w.heap.size 0 rfl (rcs r) _ Q.out.range Tryz.underlying31 rfl (by kernel_rfl) ?_))
        refine (rhasExtra_any r _ H2.out (HR.out.below BV.out (Nat.le_refl _)) (HW.out.below BV.out (Nat.le_refl _))).mono ?_
        rintro e w2 ⟨rfl, hb2⟩
        rw [h3]
        have B2 : Hid (Below w.heap.size w w2) := BV.out.trans (hb2.mono hVs)
        clear hb2 h3 q0
        go_wp2
        go_ret
        exact ⟨by rw [HQ.out]; rfl, B2.out⟩
      | false =>
        obtain ⟨k, hkk, hk6⟩ := kindR_nat h2
        obtain ⟨m, hmm, hm1, hm7⟩ := size_nat h1
        obtain ⟨xs, hxs⟩ : ∃ xs, Hid (rowL.getD k [] = xs) := ⟨_, rfl⟩
        obtain ⟨S, hS⟩ : ∃ S, Hid (rowS.getD k ⟨#[]⟩ = S) := ⟨_, rfl⟩
        have HL : Hid (Lts S xs) := by rw [← hxs.out, ← hS.out]; exact lts_row hk6
        have HQ : Hid (chkR n r = firstR n r xs) := by
          show _ = _
          unfold chkR
          rw [h1, h2, h3, if_pos rfl, if_pos rfl, if_neg (by simp), ← hxs.out]
          unfold rowR
          rw [hkk]; rfl
        have H2 := hide h2
        have HKK : Hid (r.kind = (k : Int)) := hkk
        subst hmm
        clear hkk
        go_enter Tryz.func25, Tryz.ntmps25
        go_wp2_with fail
        rw [← hV]
        refine (risSize_any (m : Int) _).mono ?_
        rintro e w1 ⟨rfl, rfl⟩
        rw [h1]
        clear h1 hV
        go_wp2_with fail
        refine (risKind_any r.kind _).mono ?_
        rintro e w1 ⟨rfl, rfl⟩
        rw [h2]
        clear h2
        go_wp2_with (first | (refine wpList_load_mid rfl 31 _ rfl w.heap.size 0 rfl (rcs r) _ Q.out.range Tryz.underlying31 rfl (by kernel_rfl) ?_))
        refine (rhasExtra_any r _ H2.out (HR.out.below BV.out (Nat.le_refl _)) (HW.out.below BV.out (Nat.le_refl _))).mono ?_
        rintro e w2 ⟨rfl, hb2⟩
        rw [h3]
        have B2 : Hid (Below w.heap.size w w2) := BV.out.trans (hb2.mono hVs)
        have Q2 : Hid (Blk w2 w.heap.size (rcs r)) := Q.out.on hb2
        have z2 : w.heap.size < w2.heap.size := Q2.out.lt
        have p0 : w2.cell? ⟨w.heap.size, 0, none⟩ = some (.int .i64 (k : Int)) := by rw [← HKK.out]; exact Q2.out.cell 0 _ (rcs0 r)
        have qr : w2.cell? ⟨0, k, none⟩ = some (.string S) := by rw [← hS.out]; exact HW.out.below B2.out (Nat.le_refl _) k hk6
        have L0 := hide (lp_iter S Q2.out B2.out)
        clear hb2 h3 q0 Q BV hVs
        go_wp2
        go_loopw [6, 7] (fun _ _ wr => ∃ p : Nat, p ≤ xs.length ∧ Hid (Lp w wr w.heap.size w2.heap.size S p r) ∧ Hid (firstR (m : Int) r xs = firstR (m : Int) r (xs.drop p))) (fun _ _ wr => xs.length - wr.iterPos w2.heap.size)
        case atStart => exact ⟨0, Nat.zero_le _, L0, rfl⟩
        case round =>
          obtain ⟨p, hp, HP, HA⟩ := hrel
          by_cases hlt : p < xs.length
          · have hnx := fun ty => lts_next (P := Tryz.prog) HL.out HP.out.iter hlt ty
            have HP1 : Hid (Lp w (wr.iterAt w2.heap.size S (p + 1)) w.heap.size w2.heap.size S (p + 1) r) := HP.out.next (by omega) (by omega) (p + 1)
            have hx : Hid (Ltr (xs.getD p 0)) := HL.out.ltr hlt
            have hpos := hide HP.out.pos
            obtain ⟨x, hxx⟩ : ∃ x, Hid (xs.getD p 0 = x) := ⟨_, rfl⟩
            rw [hxx.out] at hnx hx
            generalize wr.iterAt w2.heap.size S (p + 1) = w3 at *
            by_cases hf : faultR (m : Int) r x = 0
            · have HN : Hid (firstR (m : Int) r xs = firstR (m : Int) r (xs.drop (p + 1))) := by
                show _ = _
                rw [HA.out]; exact firstR_next hlt (by rw [hxx.out]; exact hf)
              have HF := hide hf
              clear hf
              go_wp2_with (first | (refine wpList_load_mid rfl 31 _ rfl w.heap.size 0 rfl (rcs r) _ HP1.out.box.range Tryz.underlying31 rfl (by kernel_rfl) ?_))
              refine (rfaultOf_any m r x _ hx.out hm1 hm7 (HR.out.below HP1.out.low (Nat.le_refl _)) (HK.out.below HP1.out.low (Nat.le_refl _))).mono ?_
              rintro e w4 ⟨rfl, hb4⟩
              rw [HF.out]
              have HP2 : Hid (Lp w w4 w.heap.size w2.heap.size S (p + 1) r) := HP1.out.on hb4
              clear hb4
              go_wp2
              go_roundw
              case rel => exact ⟨p + 1, by omega, HP2, HN⟩
              case measure => have h1 := hpos.out; have h2 := HP2.out.pos; rw [h1, h2]; omega
            · have HN : Hid (chkR (m : Int) r = faultR (m : Int) r x) := by
                show _ = _
                rw [HQ.out, HA.out, ← hxx.out]; exact firstR_hit hlt (by rw [hxx.out]; exact hf)
              obtain ⟨f, hf'⟩ : ∃ f, Hid (faultR (m : Int) r x = f) := ⟨_, rfl⟩
              rw [hf'.out] at hf
              have hfn : ((f : Int) != 0) = true := by rw [bne_iff_ne]; omega
              clear hf
              go_wp2_with (first | (refine wpList_load_mid rfl 31 _ rfl w.heap.size 0 rfl (rcs r) _ HP1.out.box.range Tryz.underlying31 rfl (by kernel_rfl) ?_))
              refine (rfaultOf_any m r x _ hx.out hm1 hm7 (HR.out.below HP1.out.low (Nat.le_refl _)) (HK.out.below HP1.out.low (Nat.le_refl _))).mono ?_
              rintro e w4 ⟨rfl, hb4⟩
              rw [hf'.out]
              have HP2 : Hid (Lp w w4 w.heap.size w2.heap.size S (p + 1) r) := HP1.out.on hb4
              clear hb4
              go_wp2
              go_ret
              exact ⟨by rw [HN.out, hf'.out]; rfl, HP2.out.low⟩
          · have hnx := fun ty => lts_end (P := Tryz.prog) HL.out HP.out.iter hlt ty
            have HN : Hid (chkR (m : Int) r = 0) := by
              show _ = _
              rw [HQ.out, HA.out, List.drop_eq_nil_of_le (by omega)]; rfl
            go_wp2
            go_ret
            exact ⟨by rw [HN.out]; rfl, HP.out.low⟩
end Go.Proofs.YtnogdjpbnhnmaaaGreatDoor
/- The contracts of PutUint, fold and PutInt: what they hand back is new memory that holds just the form of the number. -/
namespace Go.Proofs.YtnogdjpbnhnmaaaGreatDoor
open Go.RowKit Go.Wire1

theorem Tryz.info5 : (Tryz.prog.info? 5).map (fun i => (i.zero, i.size, i.bytes)) = some (some (.int .u8 0), 1, 1) := by kernel_rfl

set_option maxHeartbeats 400000 in
set_option maxRecDepth 100000 in
theorem putUint_any (x : Nat) (w : World) (hx : x < 18446744073709551616) :
    Calls Tryz.prog 120 #[.int .u64 (x : Int)] w fun e w' => ∃ v, e = .returned v ∧ w'.ownsRow w.heap.size 5 1 v (enc x).length ((enc x).map (Value.int .u8)) ∧ Below w.heap.size w w' := by
  obtain ⟨i0, hi, hz0, hz1, hz2⟩ := info_parts Tryz.info5
  go_enter Tryz.func120, Tryz.ntmps120
  go_wp2
  go_loopw [0, 3] (fun s v wr => ∃ (y : Nat) (pre : List Int) (f : Nat), s = .int .u64 (y : Int) ∧ y < 18446744073709551616 ∧ Hid (y < 128 ^ (f + 1)) ∧ pre.length + f = 9 ∧ Hid (pre ++ encF (f + 1) y = enc x) ∧ wr.ownsRow w.heap.size 5 1 v pre.length (pre.map (Value.int .u8)) ∧ Below w.heap.size w wr)
    (fun s _ _ => (intOf s).toNat)
  case atStart => exact ⟨x, [], 9, rfl, hx, pow10 x hx, rfl, rfl, World.ownsRow_nil _ _ _ _, Below.refl _ _⟩
  case round =>
    obtain ⟨y, pre, f, rfl, hy, HP, hf, HE, hown, hbel⟩ := hrel
    have hsz := hbel.size
    have hpl : pre.length ≤ 9 := by omega
    have HF : Hid (pre.length + f = 9) := hf
    clear hf
    by_cases hc : 128 ≤ y
    · go_wp2_with (first
        | (at_builtin; refine wpList_append_own _ rfl _ _ 22 rfl w.heap.size 5 i0 (.int .u8 0) 1 1 Tryz.underlying22 hi hz0 hz1 hz2 rfl (by decide) _ _ _ rfl (hown.alloc _) ⟨wr.heap.size, 0, none⟩ 1 1 [.int .u8 (bits .or .u8 ((y : Int) % 256) 128)] rfl rfl ?c1 ?c2 ?c3 ?c4 ?c5 ?_))
      case c1 =>
        intro j u hj
        match j, hj with
        | 0, hj => simp at hj; subst hj; simp [Addr.add]
      case c2 => intro u hu; simp at hu; subst hu; rfl
      case c3 => unfold maxLen; omega
      case c4 => omega
      case c5 => simp; omega
      intro v' w1 hown' hgrow _
      rw [bits_or128] at hown'
      have R := push hsz hown hbel hown' hgrow
      clear hown' hgrow hown
      obtain ⟨g, rfl, hg⟩ := pow128 f y HP.out hc
      have HG : Hid (y / 128 < 128 ^ (g + 1)) := hg
      clear hg
      go_wp2
      go_roundw
      case rel => exact ⟨y / 128, pre ++ [((y % 128 + 128 : Nat) : Int)], g, by go_num, by omega, HG, by have := HF.out; simp; omega, by have := HE.out; rw [encF_big _ _ hc] at this; simpa [Hid] using this, R.1, R.2⟩
      case measure => simp [intOf]; omega
    · go_wp2_with (first
        | (at_builtin; refine wpList_append_own _ rfl _ _ 22 rfl w.heap.size 5 i0 (.int .u8 0) 1 1 Tryz.underlying22 hi hz0 hz1 hz2 rfl (by decide) _ _ _ rfl (hown.alloc _) ⟨wr.heap.size, 0, none⟩ 1 1 [.int .u8 (y : Int)] rfl rfl ?d1 ?d2 ?d3 ?d4 ?d5 ?_))
      case d1 =>
        intro j u hj
        match j, hj with
        | 0, hj => simp at hj; subst hj; simp [Addr.add]
      case d2 => intro u hu; simp at hu; subst hu; rfl
      case d3 => unfold maxLen; omega
      case d4 => omega
      case d5 => simp; omega
      intro v' w1 hown' hgrow _
      have R := push hsz hown hbel hown' hgrow
      clear hown' hgrow hown
      have HQ : Hid (pre ++ [(y : Int)] = enc x) := by have := HE.out; rw [encF_small _ _ (by omega)] at this; exact this
      go_wp2
      go_ret
      rw [HQ.out] at R
      exact ⟨_, rfl, R.1, R.2⟩
set_option maxHeartbeats 400000 in
set_option maxRecDepth 100000 in
theorem fold_any (x : Int) (w : World) (h1 : -9223372036854775808 ≤ x) (h2 : x ≤ 9223372036854775807) :
    Calls Tryz.prog 152 #[.int .i64 x] w fun e w' => e = .returned (.int .u64 (zig x : Nat)) ∧ w' = w := by
  by_cases hc : 0 ≤ x
  · go_enter Tryz.func152, Tryz.ntmps152
    go_wp2
    go_ret
    exact ⟨ret_int (zig_pos x hc h2), rfl⟩
  · go_enter Tryz.func152, Tryz.ntmps152
    go_wp2
    go_ret
    exact ⟨ret_int (zig_neg x (by omega) h1), rfl⟩

set_option maxHeartbeats 400000 in
set_option maxRecDepth 100000 in
theorem putInt_any (x : Int) (w : World) (h1 : -9223372036854775808 ≤ x) (h2 : x ≤ 9223372036854775807) :
    Calls Tryz.prog 125 #[.int .i64 x] w fun e w' => ∃ v, e = .returned v ∧ w'.ownsRow w.heap.size 5 1 v (enc (zig x)).length ((enc (zig x)).map (Value.int .u8)) ∧ Below w.heap.size w w' := by
  have hz := zig_lt x h1 h2
  go_enter Tryz.func125, Tryz.ntmps125
  go_wp2_with fail
  refine (fold_any x _ h1 h2).mono ?_
  rintro e w' ⟨rfl, rfl⟩
  go_wp2_with fail
  refine (putUint_any (zig x) _ hz).mono ?_
  rintro e w' ⟨v, rfl, hown, hbel⟩
  go_wp2
  go_ret
  exact ⟨_, rfl, hown, hbel⟩
end Go.Proofs.YtnogdjpbnhnmaaaGreatDoor
/- The contract of PutText: new memory that holds the length's form and the text's bytes. -/
namespace Go.Proofs.YtnogdjpbnhnmaaaGreatDoor
open Go.RowKit Go.Wire1 Go.Lib

/-- A text's bytes, as numbers. -/
def txt (s : ByteArray) : List Int := s.data.toList.map fun b => (b.toNat : Int)
theorem txt_len (s : ByteArray) : (txt s).length = s.size := by
  show (s.data.toList.map _).length = s.data.size
  rw [List.length_map, Array.length_toList]
theorem txt_cells (s : ByteArray) : strCells s = (txt s).map (Value.int .u8) := by simp [strCells, txt]

set_option maxHeartbeats 1000000 in
set_option maxRecDepth 100000 in
theorem putText_any (s : ByteArray) (w : World) (hs : s.size ≤ 140737488351232) :
    Calls Tryz.prog 123 #[.string s] w fun e w' => ∃ v, e = .returned v ∧ w'.ownsRow w.heap.size 5 1 v (enc s.size ++ txt s).length ((enc s.size ++ txt s).map (Value.int .u8)) ∧ Below w.heap.size w w' := by
  obtain ⟨i0, hi, hz0, hz1, hz2⟩ := info_parts Tryz.info5
  have hle := enc_le s.size (by omega)
  go_enter Tryz.func123, Tryz.ntmps123
  go_wp2_with fail
  refine (putUint_any s.size _ (by omega)).mono ?_
  rintro e w1 ⟨v, rfl, hown, hbel⟩
  have hsz := hbel.size
  go_wp2_with (first
    | (at_builtin; refine wpList_append_own_string _ rfl _ _ 22 9 rfl w.heap.size 5 i0 Tryz.underlying22 Tryz.underlying9 hi hz0 hz1 hz2 _ _ _ rfl hown s rfl ?c1 ?c2 ?c3 ?_))
  case c1 => unfold maxLen; omega
  case c2 => omega
  case c3 => omega
  intro v' w2 hown' hgrow _
  have B2 : Below w.heap.size w w2 := hbel.grown hgrow hsz (fun j hj => (hown.lt j hj).1)
  rw [txt_cells, ← List.map_append] at hown'
  have e1 : (enc s.size).length + s.size = (enc s.size ++ txt s).length := by rw [List.length_append, txt_len]
  rw [e1] at hown'
  clear e1 hgrow hown hbel
  go_wp2
  go_ret
  exact ⟨_, rfl, hown', B2⟩
end Go.Proofs.YtnogdjpbnhnmaaaGreatDoor
