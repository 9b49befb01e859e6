/- Proved: for all arguments, WireBounds answers true: a number, a byte and a text are taken just up to their bounds, above them the reader stands at their first byte, and a text's length is judged although its bytes are missing. The five sentinels of package wire are as the program's text lays them. -/
import Derived.Test.YtifhbbljjalpfabDoorMUint
import Derived.Test.YtifhbbljjalpfabDoorMByte
import Derived.Test.YtifhbbljjalpfabDoorMText
import Derived.Test.YtifhbbljjalpfabDoorNew
import Derived.Test.YtifhbbljjalpfabDoorJoin
import Derived.Test.YtifhbbljjalpfabDoorLaid
import Derived.Test.YtifhbbljjalpfabDoorArgs
import Derived.Test.YtifhbbljjalpfabDoorCards
import Derived.Test.YtifhbbljjalpfabDoorTie
import Derived.Deep.DeepHandedRow
import Derived.Deep.DeepWitnessRowRef
import Derived.WalkSmall
namespace Go.Proofs.YtifhbbljjalpfabDoor
namespace wireBounds
open Go.ChangeShapes Go.WideShapes Go.ChangeAt Go.RowKit Go.Wire1
open Go.ChangeMaps (open_string shut_string)

theorem str_txt (s : ByteArray) : strOfNums (txt s) = s := by
  obtain ⟨d⟩ := s
  have e : ((fun n : Int => UInt8.ofNat n.toNat) ∘ fun b : UInt8 => (b.toNat : Int)) = id := by funext b; simp
  simp [strOfNums, txt, e]
theorem dec_enc' (x : Nat) (h : x < 18446744073709551616) : dec (enc x) = .ok (x, (enc x).length) := by
  have := dec_enc x [] h
  rwa [List.append_nil] at this

theorem way1 (x most : Nat) (hx : x < 18446744073709551616) :
    (x ≤ most ∧ Meth (.int .u64 0) (rU most (enc x) 0) 0 0 = (.int .u64 (x : Int), (enc x).length, 0)) ∨ (most < x ∧ Meth (.int .u64 0) (rU most (enc x) 0) 0 0 = (.int .u64 0, 0, 14)) := by
  have hd := dec_enc' x hx
  by_cases h : most < x
  · right
    refine ⟨h, meth_err (i := 3) ?_⟩
    unfold rU; rw [List.drop_zero, hd]; exact if_pos h
  · left
    refine ⟨by omega, ?_⟩
    have : rU most (enc x) 0 = .ok (.int .u64 (x : Int), (enc x).length) := by unfold rU; rw [List.drop_zero, hd]; exact if_neg h
    rw [meth_ok this, Nat.zero_add]
theorem way2 (z top : Int) :
    (z ≤ top ∧ Meth (.int .i64 0) (rB top [z] 0) 0 0 = (.int .i64 z, 1, 0)) ∨ (top < z ∧ Meth (.int .i64 0) (rB top [z] 0) 0 0 = (.int .i64 0, 0, 14)) := by
  by_cases h : top < z
  · right
    exact ⟨h, meth_err (i := 3) (by simp [rB, h])⟩
  · left
    exact ⟨by omega, by rw [meth_ok (v := .int .i64 z) (m := 1) (by simp [rB, h])]⟩
theorem way3 (s : ByteArray) (lo hi : Int) (hs : s.size < 18446744073709551616) :
    (lo ≤ (s.size : Int) ∧ (s.size : Int) ≤ hi ∧ Meth (.string ⟨#[]⟩) (rT lo hi (enc s.size ++ txt s) 0) 0 0 = (.string s, (enc s.size ++ txt s).length, 0)) ∨
    (¬ (lo ≤ (s.size : Int) ∧ (s.size : Int) ≤ hi) ∧ Meth (.string ⟨#[]⟩) (rT lo hi (enc s.size ++ txt s) 0) 0 0 = (.string ⟨#[]⟩, 0, 15) ∧ Meth (.string ⟨#[]⟩) (rT lo hi (enc s.size) 0) 0 0 = (.string ⟨#[]⟩, 0, 15)) := by
  have hd := dec_enc s.size (txt s) hs
  have hd' := dec_enc' s.size hs
  by_cases h : lo ≤ (s.size : Int) ∧ (s.size : Int) ≤ hi
  · left
    refine ⟨h.1, h.2, ?_⟩
    have : rT lo hi (enc s.size ++ txt s) 0 = .ok (.string s, (enc s.size).length + s.size) := by
      unfold rT
      rw [List.drop_zero, hd]
      show (if _ then _ else _) = _
      rw [if_pos h, if_pos (by rw [List.length_append, txt_len]; omega), Nat.zero_add, List.drop_left, List.take_of_length_le (by rw [txt_len]; exact Nat.le_refl _), str_txt]
    rw [meth_ok this, Nat.zero_add, List.length_append, txt_len]
  · right
    refine ⟨h, meth_err (i := 4) ?_, meth_err (i := 4) ?_⟩
    · unfold rT; rw [List.drop_zero, hd]; exact if_neg h
    · unfold rT; rw [List.drop_zero, hd']; exact if_neg h

theorem seg_new1 (w : World) (x : Int) : Seg (w.alloc (.cells #[.int .u8 x] 5)) (some ⟨w.heap.size, 0, none⟩) 1 [x] := by
  refine ⟨rfl, by unfold maxLen; omega, fun _ => ⟨w.heap.size, 0, rfl, fun j hj => ?_⟩⟩
  rw [World.cell?_alloc_at _ _ _ _ rfl]
  obtain rfl : j = 0 := by omega
  rfl

set_option maxHeartbeats 8000000 in
set_option maxRecDepth 100000 in
theorem walk (x most : Nat) (c top : Int) (s : ByteArray) (lo hi : Int) (a : Nat → Addr) (w : World) (hx : x < 18446744073709551616)
    (hs : s.size ≤ 140737488351232) (hl1 : -9223372036854775808 ≤ lo) (hl2 : lo ≤ 9223372036854775807) (hh1 : -9223372036854775808 ≤ hi) (hh2 : hi ≤ 9223372036854775807) (he : Errs w a) :
    Calls Tryd.prog 3 #[.int .u64 (x : Int), .int .u64 (most : Int), .int .i64 c, .int .i64 top, .string s, .int .i64 lo, .int .i64 hi] w fun e w' => e = .returned (.bool true) ∧ Below w.heap.size w w' := by
  have W1 := hide (way1 x most hx)
  have W3 := hide (way3 s lo hi (by omega))
  have lx := enc_le x hx
  have ls := enc_le s.size (by omega)
  have BX := byt_enc x
  have BS := byt_enc s.size
  have BT := byt_app BS (txt_byt s)
  have LT : Hid ((enc s.size ++ txt s).length = (enc s.size).length + s.size ∧ (enc s.size ++ txt s).take (enc s.size).length = enc s.size) := ⟨by rw [List.length_append, txt_len], List.take_left⟩
  go_enter Tryd.func3, Tryd.ntmps3
  go_wp2_with fail
  refine (putUint_any x _ hx).mono ?_
  rintro e w1 ⟨v1, rfl, hown1, B1⟩
  obtain ⟨a1, cap1, rfl, _, _, s1⟩ := seg_own hown1
  have n1 : a1 = none → (enc x).length = 0 := fun e => by
    subst e; rcases hown1.2 with ⟨h, h'⟩ | ⟨g, _, _, h, _⟩
    · exact h'
    · cases h
  have e1 := he.below B1 (Nat.le_refl _)
  clear hown1
  generalize hX : enc x = X at *
  have HX := hide hX
  clear hX
  go_wp2_with fail
  refine (newReader_any a1 X.length cap1 X a _ s1 BX e1 (by omega) n1).mono ?_
  rintro e w2 ⟨b, sa, cap, rfl, hb, B2, R, _⟩
  have hbw : w.heap.size ≤ b := Nat.le_trans B1.size hb
  replace B2 : Below w.heap.size w w2 := B1.trans (B2.mono B1.size)
  clear B1 s1 n1 e1 hb
  have HB := hide B2
  clear B2
  go_wp2_with fail
  refine (mUint.any most b X.length cap 0 0 sa X a _ R).mono ?_
  rintro e w3 ⟨rfl, T3, R3⟩
  have HB3 := hide (T3.below hbw HB.out)
  clear T3 R HB
  rcases W1.out with ⟨hw, hM⟩ | ⟨hw, hM⟩
  all_goals
    rw [hM] at R3 ⊢
    clear hM W1
    go_wp2_with fail
    refine (err_any b _ cap _ _ sa X a _ R3).mono ?_
    rintro e w4 ⟨rfl, q, rfl⟩
    have HB4 := hide (below_drewN HB3.out q)
    have e4 := he.below HB4.out (Nat.le_refl _)
    clear HB3 R3
    generalize w3.drewN q = w4 at *
    go_wp2_with fail
    refine (putUint_any x _ hx).mono ?_
    rintro e w5 ⟨v5, rfl, hown5, B5⟩
    rw [HX.out] at hown5
    obtain ⟨a5, cap5, rfl, _, _, _⟩ := seg_own hown5
    have HB5 := hide (HB4.out.trans (B5.mono HB4.out.size))
    clear HB4 B5 hown5 e4
    go_wp2_with (first | (go_at_call 13; refine (num_any _ _).mono ?_; rintro e w' ⟨rfl, rfl⟩))
    have hz : 0 ≤ bits .and .i64 c 255 % 256 ∧ bits .and .i64 c 255 % 256 < 256 := by omega
    generalize bits .and .i64 c 255 % 256 = z at *
    have W2 := hide (way2 z top)
    have s6 := seg_new1 w' z
    have b6 : Byt [z] := by intro y hy; simp at hy; subst hy; exact hz
    have B6 : Below w'.heap.size w' (w'.alloc (.cells #[.int .u8 z] 5)) := (Below.refl _ _).alloc (Nat.le_refl _) _
    have HB6 := hide (HB5.out.trans (B6.mono HB5.out.size))
    have e6 := he.below HB6.out (Nat.le_refl _)
    clear HB5 B6
    generalize w'.alloc (.cells #[.int .u8 z] 5) = w6 at *
    refine (newReader_any _ 1 1 [z] a _ s6 b6 e6 (by omega) (fun e => by cases e)).mono ?_
    rintro e w7 ⟨b', sa', cap', rfl, hb', B7, R7, _⟩
    have hbw' : w.heap.size ≤ b' := Nat.le_trans HB6.out.size hb'
    have HB7 := hide (HB6.out.trans (B7.mono HB6.out.size))
    clear B7 HB6 s6 b6 e6 hb'
    have R7' : Rdr w7 b' sa' 1 cap' 0 0 [z] a := R7
    clear R7
    go_wp2_with fail
    refine (mByte.any top b' 1 cap' 0 0 sa' [z] a _ R7').mono ?_
    rintro e w8 ⟨rfl, T8, R8⟩
    have HB8 := hide (T8.below hbw' HB7.out)
    clear T8 R7' HB7
    rcases W2.out with ⟨hw2, hM⟩ | ⟨hw2, hM⟩
    all_goals
      rw [hM] at R8 ⊢
      clear hM W2
      go_wp2_with fail
      refine (err_any b' _ cap' _ _ sa' [z] a _ R8).mono ?_
      rintro e w9 ⟨rfl, q9, rfl⟩
      have HB9 := hide (below_drewN HB8.out q9)
      clear HB8 R8
      generalize w8.drewN q9 = w9 at *
      go_wp2_with (first | (go_at_call 13; refine (num_any _ _).mono ?_; rintro e w' ⟨rfl, rfl⟩))
      refine (putText_any s _ hs).mono ?_
      rintro e w10 ⟨v10, rfl, hown10, B10⟩
      obtain ⟨a10, cap10, rfl, hcc, hcm, s10⟩ := seg_own hown10
      have n10 : a10 = none → (enc s.size ++ txt s).length = 0 := fun e => by
        subst e; rcases hown10.2 with ⟨h, h'⟩ | ⟨g, _, _, h, _⟩
        · exact h'
        · cases h
      have HB10 := hide (HB9.out.trans (B10.mono HB9.out.size))
      have e10 := he.below HB10.out (Nat.le_refl _)
      clear hown10 HB9 B10
      unfold maxLen at hcm
      generalize enc s.size ++ txt s = T at *
      generalize enc s.size = S at *
      have hT : T.length ≤ S.length + s.size ∧ S.length + s.size ≤ T.length := by have := LT.out.1; omega
      go_wp2_with fail
      refine (newReader_any a10 T.length cap10 T a _ s10 BT e10 (by omega) n10).mono ?_
      rintro e w11 ⟨b2, sa2, cap2, rfl, hb2, B11, R11, _⟩
      have hbw2 : w.heap.size ≤ b2 := Nat.le_trans HB10.out.size hb2
      have hne : ∀ x, a10 = some x → 0 < T.length → x.block ≠ b2 := fun x hx hn => by have := s10.lt hn hx; omega
      have HB11 := hide (HB10.out.trans (B11.mono HB10.out.size))
      replace s10 := s10.below B11 (Nat.le_refl _)
      clear B11 HB10 e10 hb2
      go_wp2_with fail
      refine (mText.any lo hi hl1 hl2 hh1 hh2 b2 T.length cap2 0 0 sa2 T a _ R11).mono ?_
      rintro e w12 ⟨rfl, T12, R12⟩
      have HB12 := hide (T12.below hbw2 HB11.out)
      replace s10 := T12.seg s10 hne
      clear R11 HB11
      rcases W3.out with ⟨hlo, hhi, hM⟩ | ⟨hno, hM, hM2⟩
      · rw [hM] at R12 ⊢
        clear hM W3
        go_wp2_with fail
        refine (err_any b2 _ cap2 _ _ sa2 T a _ R12).mono ?_
        rintro e w13 ⟨rfl, q13, rfl⟩
        have HB13 := hide (below_drewN HB12.out q13)
        clear HB12 R12
        generalize w12.drewN q13 = w13 at *
        go_wp2_with (first | (go_at_call 13; refine (num_any _ _).mono ?_; rintro e w' ⟨rfl, rfl⟩))
        go_ret
        exact ⟨rfl, HB13.out⟩
      · rw [hM] at R12 ⊢
        clear hM W3
        have HM2 := hide hM2
        clear hM2
        have hd : decide (lo ≤ (s.size : Int)) = false ∨ (decide (lo ≤ (s.size : Int)) = true ∧ decide ((s.size : Int) ≤ hi) = false) := by
          by_cases h : lo ≤ (s.size : Int)
          · right; exact ⟨by simpa using h, by simp; omega⟩
          · left; simpa using h
        go_wp2_with fail
        refine (err_any b2 _ cap2 _ _ sa2 T a _ R12).mono ?_
        rintro e w13 ⟨rfl, q13, rfl⟩
        have HB13 := hide (below_drewN HB12.out q13)
        replace s10 := s10.drewN q13
        clear HB12 R12
        generalize w12.drewN q13 = w13 at *
        rcases hd with hd | ⟨hd, hd'⟩
        all_goals
          go_wp2_with (first | (go_at_call 13; refine (num_any _ _).mono ?_; rintro e w' ⟨rfl, rfl⟩))
          have sS : Seg w' a10 (T.length - s.size) S := by
            have e : T.length - s.size = S.length := by omega
            have h := s10.take (k := S.length) (by omega)
            rw [LT.out.2] at h
            rw [e]; exact h
          have e13 := he.below HB13.out (Nat.le_refl _)
          refine (newReader_any a10 _ cap10 S a _ sS BS e13 (by omega) (fun e => by have := n10 e; omega)).mono ?_
          rintro e w14 ⟨b3, sa3, cap3, rfl, hb3, B14, R14, _⟩
          have hbw3 : w.heap.size ≤ b3 := Nat.le_trans HB13.out.size hb3
          have HB14 := hide (HB13.out.trans (B14.mono HB13.out.size))
          clear B14 HB13 sS s10 e13 hb3
          go_wp2_with fail
          refine (mText.any lo hi hl1 hl2 hh1 hh2 b3 S.length cap3 0 0 sa3 S a _ R14).mono ?_
          rintro e w15 ⟨rfl, T15, R15⟩
          have HB15 := hide (T15.below hbw3 HB14.out)
          rw [HM2.out] at R15 ⊢
          clear T15 R14 HB14
          go_wp2_with fail
          refine (err_any b3 _ cap3 _ _ sa3 S a _ R15).mono ?_
          rintro e w16 ⟨rfl, q16, rfl⟩
          have HB16 := hide (below_drewN HB15.out q16)
          clear HB15 R15
          generalize w15.drewN q16 = w16 at *
          go_wp2_with (first | (go_at_call 13; refine (num_any _ _).mono ?_; rintro e w' ⟨rfl, rfl⟩))
          go_ret
          exact ⟨rfl, HB16.out⟩

set_option maxRecDepth 100000 in
/-- For every argument and every world that holds the sentinels. -/
theorem contract (H : Type) (enc : TypeId × Value → H) (W : World) (base : Nat) (args : Array Value) (ds gs : List (DataW H)) (before : List MemPlace)
    (hval : ∀ (j : Nat) t v, Tryd.f3.params[j]? = some t → args[j]? = some v → Value.okWide Tryd.prog W .any base t v)
    (hW : DataW.Whole enc Tryd.prog Tryd.f3.params.toList Rows.wireBoundsSpec.vars false W args.toList ds gs before)
    (hsz : (DataW.weightsEach Tryd.prog (Tryd.f3.params.toList ++ (OpenSpec.ofChange Rows.wireBoundsSpec).bare.plain.varTypes Tryd.prog) (ds ++ gs)).all (· ≤ reachBytes) = true)
    (hL : laidMetH Tryd.prog Rows.wireBoundsRow.laid W) :
    Calls Tryd.prog 3 args W fun e W' => ∃ v, e = .returned v ∧ Rows.wireBoundsSpec.post enc Tryd.prog Tryd.f3 false true false false W args v W' := by
  have hW' := hW
  obtain ⟨p, q, hA0, hV, rfl, hfz, hnd⟩ := hW
  have hA : DataW.TrodAll enc Tryd.prog W 0 (fun _ => true) true Tryd.f3.params.toList args.toList ds p := hA0
  rw [Tryd.params3] at hA hval hsz
  obtain ⟨v0, vs0, d0, ds0, p0, q0, hargs, rfl, rfl, h0, r0⟩ := trodAll_cons hA
  obtain ⟨v1, vs1, d1, ds1, p1, q1, rfl, rfl, rfl, h1, r1⟩ := trodAll_cons r0
  obtain ⟨v2, vs2, d2, ds2, p2, q2, rfl, rfl, rfl, h2, r2⟩ := trodAll_cons r1
  obtain ⟨v3, vs3, d3, ds3, p3, q3, rfl, rfl, rfl, h3, r3⟩ := trodAll_cons r2
  obtain ⟨v4, vs4, d4, ds4, p4, q4, rfl, rfl, rfl, h4, r4⟩ := trodAll_cons r3
  obtain ⟨v5, vs5, d5, ds5, p5, q5, rfl, rfl, rfl, h5, r5⟩ := trodAll_cons r4
  obtain ⟨v6, vs6, d6, ds6, p6, q6, rfl, rfl, rfl, h6, r6⟩ := trodAll_cons r5
  obtain ⟨rfl, rfl, rfl⟩ := trodAll_nil r6
  obtain rfl : args = #[v0, v1, v2, v3, v4, v5, v6] := by cases args; simp_all
  obtain ⟨rfl, rfl⟩ := trodVars_none hV
  obtain ⟨y0, rfl, rfl, rfl, w0⟩ := open_int Tryd.underlying22 (hval 0 22 v0 rfl rfl) h0
  obtain ⟨y1, rfl, rfl, rfl, w1⟩ := open_int Tryd.underlying22 (hval 1 22 v1 rfl rfl) h1
  obtain ⟨y2, rfl, rfl, rfl, w2⟩ := open_int Tryd.underlying3 (hval 2 3 v2 rfl rfl) h2
  obtain ⟨y3, rfl, rfl, rfl, w3⟩ := open_int Tryd.underlying3 (hval 3 3 v3 rfl rfl) h3
  obtain ⟨s4, rfl, rfl, rfl, hs4⟩ := open_string Tryd.underlying9 (hval 4 9 v4 rfl rfl) h4
  obtain ⟨y5, rfl, rfl, rfl, w5⟩ := open_int Tryd.underlying3 (hval 5 3 v5 rfl rfl) h5
  obtain ⟨y6, rfl, rfl, rfl, w6⟩ := open_int Tryd.underlying3 (hval 6 3 v6 rfl rfl) h6
  have hreach4 : s4.size ≤ 140737488351232 := by
    have hs := sized_string hsz (j := 4) (t := 9) (bytes := s4.data.toList) rfl rfl
    simp only [reachBytes] at hs
    simpa using hs
  obtain ⟨a, hE⟩ := errs_of_laid hL
  clear hA0
  have b0 := bounds_u64 w0
  obtain ⟨x0, rfl⟩ := Int.eq_ofNat_of_zero_le b0.1
  have b1 := bounds_u64 w1
  obtain ⟨x1, rfl⟩ := Int.eq_ofNat_of_zero_le b1.1
  have b2 := bounds_i64 w2
  have b3 := bounds_i64 w3
  have b5 := bounds_i64 w5
  have b6 := bounds_i64 w6

  refine (walk x0 x1 y2 y3 s4 y5 y6 a W (by omega) hreach4 b5.1 b5.2 b6.1 b6.2 hE).mono fun e W' ⟨he, bel⟩ => ?_
  subst he
  exact ⟨_, rfl, _, _, _, [], _, [], hW', trodAll_mk1 (shut_bool Tryd.underlying4 _), (trodAll_cons_mk (shut_int Tryd.underlying22 w0) (trodAll_cons_mk (shut_int Tryd.underlying22 w1) (trodAll_cons_mk (shut_int Tryd.underlying3 w2) (trodAll_cons_mk (shut_int Tryd.underlying3 w3) (trodAll_cons_mk (shut_string Tryd.underlying9 hs4) (trodAll_cons_mk (shut_int Tryd.underlying3 w5) (trodAll_cons_mk (shut_int Tryd.underlying3 w6) trodAll_mk0))))))), rfl, bel.frame _, fun h => by cases h⟩

theorem reads (os : Os) {H : Type} (enc : TypeId × Value → H) : ∃ places, DataW.whole enc Tryd.prog ((World.doorLaid Tryd.prog 104 os).forCall (fun _ _ => 0) ⟨#[], #[.int .u64 0, .int .u64 0, .int .i64 0, .int .i64 0, .string ByteArray.empty, .int .i64 0, .int .i64 0], []⟩).memory Tryd.f3.params.toList Rows.wireBoundsSpec.vars false #[Value.int .u64 0, .int .u64 0, .int .i64 0, .int .i64 0, .string ByteArray.empty, .int .i64 0, .int .i64 0].toList 8 = some ([.lit (.int .u64 0), .lit (.int .u64 0), .lit (.int .i64 0), .lit (.int .i64 0), .lit (.string []), .lit (.int .i64 0), .lit (.int .i64 0)], [], places) :=
  ⟨[], by kernel_rfl⟩

set_option maxRecDepth 100000 in
theorem lifted (os : Os) (started : os.Started) (H : Type) (enc : TypeId × Value → H) (F : Stop.Interp) :
    ReturnsInHanded {} Tryd.checked os 3 .any ((OpenSpec.ofChange Rows.wireBoundsSpec).preRow enc Tryd.prog Tryd.f3 Rows.wireBoundsRow.domain false Rows.wireBoundsRow.laid) (((OpenSpec.ofChange Rows.wireBoundsSpec).at F).post enc Tryd.prog Tryd.f3 false true false false) := by
  obtain ⟨places, hx⟩ := reads os enc
  refine returnsInHanded_of_row (C := Tryd.checked) (s := (OpenSpec.ofChange Rows.wireBoundsSpec)) own started (by kernel_rfl) Tryd.func3
    (witness_row_atRef (enc := enc) (C := Tryd.checked) false (World.doorLaid Tryd.prog 104 os) #[.int .u64 0, .int .u64 0, .int .i64 0, .int .i64 0, .string ByteArray.empty, .int .i64 0, .int .i64 0] rfl (by kernel_rfl) (by kernel_rfl) (by kernel_rfl)
      (OpenSpec.preRow_of_cond 8 hx (by kernel_rfl) (fun k hk => by cases hk) (by kernel_rfl) (door_met os _))) ?_
  intro W base args ds gs before hval hW _ hcond hsz hL _ _
  exact contract H enc W base args ds gs before hval hW hsz hL

theorem said : Rows.WireBoundsSaid :=
  OpenClaim.holds_of_cond 3 Tryd.f3 rfl rfl rfl rfl rfl rfl rfl ⟨rfl, rfl, rfl, rfl, rfl⟩ rfl rfl rfl rfl rfl (by kernel_rfl) Tryd.func3 (by kernel_rfl)
    (of_decide_eq_true (by kernel_rfl)) (by unfold Func.isWrapper; first | (rw [if_pos (by decide +kernel)]; kernel_rfl) | (rw [if_neg (by decide +kernel)]; exact ⟨rfl, rfl⟩))
    (fun os started H enc _ F => by rw [OpenClaim.pre_eq_preRow]; exact lifted os started H enc F)

theorem plain (f : FuncId) (fn : Func) (hf : Tryd.pinned.checked.prog.funcNamed "moot/mootlaw1.WireBounds" = some f) (hfn : Tryd.pinned.checked.prog.funcs[f]? = some fn) :
    true = Tryd.pinned.checked.prog.looks [] ∧ ∀ (j : Nat) t, fn.params[j]? = some t → Tryd.pinned.checked.prog.wantsStandIn t = false := by
  obtain rfl : f = 3 := Option.some.inj ((show Tryd.prog.funcNamed "moot/mootlaw1.WireBounds" = some 3 by kernel_rfl).symm.trans hf) |>.symm
  obtain rfl : fn = Tryd.f3 := (Option.some.inj (Tryd.func3.symm.trans hfn)).symm
  refine ⟨by kernel_rfl, fun j t ht => ?_⟩
  rw [Tryd.params3] at ht
  have hm : t ∈ [22, 22, 3, 3, 9, 3, 3] := by simpa using Array.mem_of_getElem? ht
  have hall : ([22, 22, 3, 3, 9, 3, 3].all fun u => !Tryd.prog.wantsStandIn u) = true := by kernel_rfl
  exact (show Tryd.prog.wantsStandIn t = false by simpa using List.all_eq_true.1 hall t hm)

end wireBounds
theorem wireBounds_proved : Rows.WireBoundsCardSaid :=
  Claim7.holds_tied_plain_at .later [] _ _ _ _ wireBounds.said (fun _ h => by cases h) (by kernel_rfl) (fun _ h => by cases h) wireBounds_row_tie rfl ⟨rfl, rfl⟩ (by kernel_rfl) rfl wireBounds.plain (by kernel_rfl)
#print axioms wireBounds_proved
end Go.Proofs.YtifhbbljjalpfabDoor
