/- Texts of the proof, joined. -/
import Derived.Test.YtnogdjpbnhnmaaaGreatDoorJ29
/- The contract of package record's Encode. -/
namespace Go.Proofs.YtnogdjpbnhnmaaaGreatDoor
open Go.RowKit Go.Wire1

/-- In the midst of Encode's loop: the writer, and the iterator at its place. -/
structure Lw (w wr : World) (it q : Nat) (S : ByteArray) (p : Nat) (r : Rc) (out : List Int) : Prop where
  wtr : Wx w wr q r out
  iter : wr.heap[it]? = some (.stringIter S p)
theorem Wx.lt {w0 w : World} {q : Nat} {r : Rc} {out : List Int} (h : Wx w0 w q r out) : q < w.heap.size := by obtain ⟨v, h⟩ := h; exact h.lt
theorem Wx.low {w0 w : World} {q : Nat} {r : Rc} {out : List Int} (h : Wx w0 w q r out) : Below w0.heap.size w0 w := by obtain ⟨v, h⟩ := h; exact h.low
theorem Lw.lt {w wr : World} {it q : Nat} {S : ByteArray} {p : Nat} {r : Rc} {out : List Int} (h : Lw w wr it q S p r out) : it < wr.heap.size := (Array.getElem?_eq_some_iff.1 h.iter).1
theorem Lw.ne {w wr : World} {it q : Nat} {S : ByteArray} {p : Nat} {r : Rc} {out : List Int} (h : Lw w wr it q S p r out) : it ≠ q := by
  intro e
  obtain ⟨v, hw⟩ := h.wtr
  obtain ⟨cs, h1⟩ := hw.tag
  have h2 := h.iter
  rw [e, h1] at h2
  cases h2
theorem Lw.on {w wr w' : World} {it q : Nat} {S : ByteArray} {p : Nat} {r : Rc} {out : List Int} (h : Lw w wr it q S p r out) (hb : Below wr.heap.size wr w') : Lw w w' it q S p r out :=
  ⟨h.wtr.on hb, (hb.block it h.lt).trans h.iter⟩
theorem Lw.put {w wr w' : World} {it q : Nat} {S : ByteArray} {p : Nat} {r : Rc} {out M : List Int} (h : Lw w wr it q S p r out) (hw : Wx w w' q r M) (hk : Lib.OthersKept 5 (some q) wr w') : Lw w w' it q S p r M :=
  ⟨hw, Lib.OthersKept.iter hk h.iter h.ne⟩
theorem own_iter {w : World} {B : Nat} {e : TypeId} {s : Nat} {v : Value} {n : Nat} {xs : List Value} (h : w.ownsRow B e s v n xs) {it p : Nat} {S : ByteArray} (hi : w.heap[it]? = some (.stringIter S p)) (p' : Nat) : (w.iterAt it S p').ownsRow B e s v n xs := by
  refine ⟨h.1, ?_⟩
  rcases h.2 with h2 | ⟨g, cap, cur, rfl, hB, hh, rest⟩
  · exact .inl h2
  · refine .inr ⟨g, cap, cur, rfl, hB, ?_, rest⟩
    rw [Lib.iterAt_other _ _ _ _ _ (by intro e; rw [e, hi] at hh; cases hh)]
    exact hh
theorem Lw.next {w wr : World} {it q : Nat} {S : ByteArray} {p : Nat} {r : Rc} {out : List Int} (h : Lw w wr it q S p r out) (h1 : w.heap.size ≤ it) (p' : Nat) : Lw w (wr.iterAt it S p') it q S p' r out := by
  obtain ⟨v, hw⟩ := h.wtr
  obtain ⟨cs, ht⟩ := hw.tag
  have hne := h.ne
  exact ⟨⟨v, ⟨hw.box.iterAt (Ne.symm hne), ⟨cs, (Lib.iterAt_other _ _ _ _ _ (Ne.symm hne)).trans ht⟩, own_iter hw.own h.iter p', Lib.below_iterAt hw.low h1 _ _, hw.hq⟩⟩, Lib.iterAt_heap _ _ _ _ _ h.iter⟩
theorem Lw.pos {w wr : World} {it q : Nat} {S : ByteArray} {p : Nat} {r : Rc} {out : List Int} (h : Lw w wr it q S p r out) : wr.iterPos it = p := by unfold World.iterPos; rw [h.iter]
theorem tag_setCells (q : Nat) (T : TypeId) : ∀ (vs : List Value) (o : Nat) (w : World), (∃ cs, w.heap[q]? = some (.cells cs T (0, 0))) → ∃ cs, (w.setCells q o vs).heap[q]? = some (.cells cs T (0, 0))
  | [], _, _, h => h
  | v :: vs, o, w, ⟨cs, h⟩ => tag_setCells q T vs (o + 1) _ ⟨_, heap_setCell_same w q o cs T v h⟩
theorem flat_next {r : Rc} {xs : List Nat} {p : Nat} (hp : p < xs.length) (k : Int) : (k :: (xs.take p).flatMap (wrF r)) ++ wrF r (xs.getD p 0) = k :: (xs.take (p + 1)).flatMap (wrF r) := by
  rw [List.take_succ_eq_append_getElem hp, List.flatMap_append, List.getD, List.getElem?_eq_getElem hp]
  simp
theorem flat_small {r : Rc} {xs : List Nat} (h6 : xs.length ≤ 6) (hf : ∀ x ∈ xs, Ltr x ∧ fitF r x) (p : Nat) (k : Int) : (k :: (xs.take p).flatMap (wrF r)).length ≤ 787687 := by
  have h1 := flat_le (r := r) (xs := xs.take p) (fun x hx => wrF_le (hf x (List.mem_of_mem_take hx)).1 (hf x (List.mem_of_mem_take hx)).2)
  have h2 : (xs.take p).length ≤ 6 := by rw [List.length_take]; omega
  rw [List.length_cons]
  omega
set_option maxHeartbeats 8000000 in
set_option maxRecDepth 100000 in
theorem renc_any (n : Int) (r : Rc) (w : World) (hr : Rok w r) (hR : Rws w) (hK : Knd w) (hn1 : -9223372036854775808 ≤ r.c.n) (hn2 : r.c.n ≤ 9223372036854775807) (hz : chkR n r = 0) :
    Calls Tryz.prog 13 #[.int .i64 n, .agg (rcs r).toArray] w fun e w' => ∃ u, e = .returned (.tuple #[u, .int .i64 0]) ∧ w'.ownsRow w.heap.size 5 1 u (recB r).length ((recB r).map (Value.int .u8)) ∧ Below w.heap.size w w' := by
  obtain ⟨V, hV⟩ : ∃ V, V = w.alloc (.cells (rcs r).toArray 31) := ⟨_, rfl⟩
  have Q : Hid (Blk V w.heap.size (rcs r)) := by rw [hV]; exact blk_new w 31 (rcs r)
  have BV : Hid (Below w.heap.size w V) := by rw [hV]; exact (Below.refl _ _).alloc (Nat.le_refl _) _
  have hVs : w.heap.size ≤ V.heap.size := BV.out.size
  have HR := hide hr
  have HW := hide hR
  have HK := hide hK
  have HFit := hide (fit_of_chk hz)
  have z2 := (chkR_zero hz).2.1
  obtain ⟨k, hkk, hk6⟩ := kindR_nat z2
  obtain ⟨xs, hxs⟩ : ∃ xs, Hid (rowL.getD k [] = xs) := ⟨_, rfl⟩
  obtain ⟨S, hS⟩ : ∃ S, Hid (rowS.getD k ⟨#[]⟩ = S) := ⟨_, rfl⟩
  have HL : Hid (Lts S xs) := by rw [← hxs.out, ← hS.out]; exact lts_row hk6
  have HXR : Hid (rowR r.kind = xs) := by show _ = _; rw [← hxs.out]; unfold rowR; rw [hkk]; rfl
  have h6 : Hid (xs.length ≤ 6) := by rw [← hxs.out]; exact row_len hk6
  have HAll : Hid (∀ x ∈ xs, Ltr x ∧ fitF r x) := by
    intro x hx
    refine ⟨?_, HFit.out x (by rw [HXR.out]; exact hx)⟩
    obtain ⟨p, hp, rfl⟩ := List.getElem_of_mem hx
    have h5 := HL.out.ltr hp
    rwa [List.getD, List.getElem?_eq_getElem hp] at h5
  have HB : Hid (recB r = (k : Int) :: xs.flatMap (wrF r)) := by show _ = _; unfold recB; rw [HXR.out, hkk]
  have HZ := hide hz
  have HKK : Hid (r.kind = (k : Int)) := hkk
  have k0 : (0 : Int) ≤ (k : Int) := by omega
  have k5 : (k : Int) ≤ 5 := by omega
  clear hr hR hK hz hkk z2
  go_enter Tryz.func13, Tryz.ntmps13
  go_upto_region 1 with fail
  rw [← hV]
  clear hV
  go_wp2_with (first | (refine wpList_load_mid rfl 31 _ rfl w.heap.size 0 rfl (rcs r) _ Q.out.range Tryz.underlying31 rfl (by kernel_rfl) ?_))
  refine (recCheck_any n r _ (HR.out.below BV.out (Nat.le_refl _)) (HW.out.below BV.out (Nat.le_refl _)) (HK.out.below BV.out (Nat.le_refl _))).mono ?_
  rintro e w1 ⟨rfl, hb1⟩
  rw [HZ.out]
  have B1 : Hid (Below w.heap.size w w1) := BV.out.trans (hb1.mono hVs)
  have Q1 : Hid (Blk w1 w.heap.size (rcs r)) := Q.out.on hb1
  have z1 : w.heap.size < w1.heap.size := Q1.out.lt
  have c0 : w1.cell? ⟨w.heap.size, 0, none⟩ = some (.int .i64 (k : Int)) := by rw [← HKK.out]; exact Q1.out.cell 0 _ (rcs0 r)
  clear hb1 Q BV hVs
  obtain ⟨A, hA⟩ : ∃ A, A = w1.alloc (.cells #[.int .u8 (k : Int)] 5) := ⟨_, rfl⟩
  obtain ⟨U, hU⟩ : ∃ U, U = A.alloc (.cells zeroW.toArray 66) := ⟨_, rfl⟩
  have hAs : A.heap.size = w1.heap.size + 1 := by rw [hA]; simp
  have BA : Hid (Below w1.heap.size w1 A) := by rw [hA]; exact (Below.refl _ _).alloc (Nat.le_refl _) _
  have BU : Hid (Below A.heap.size A U) := by rw [hU]; exact (Below.refl _ _).alloc (Nat.le_refl _) _
  have OA : Hid (A.ownsRow w.heap.size 5 1 (.slice (some ⟨w1.heap.size, 0, none⟩) 1 1) [(k : Int)].length ([(k : Int)].map (Value.int .u8))) := by rw [hA]; exact own_one w1 w.heap.size (by omega) (k : Int)
  have QU : Hid (Blk U A.heap.size zeroW) := by rw [hU]; exact blk_new A 66 zeroW
  have TH : Hid (U.there A.heap.size 0 19) := QU.out.there
  obtain ⟨X, hX⟩ : ∃ X, X = U.setCells A.heap.size 0 (rcs r ++ [Value.slice (some ⟨w1.heap.size, 0, none⟩) 1 1]) := ⟨_, rfl⟩
  have RX := hide (box_stored (w := A) QU.out (by rfl) BU.out (Nat.le_refl _) hX)
  have TX : Hid (∃ cs, X.heap[A.heap.size]? = some (.cells cs 66 (0, 0))) := by
    rw [hX]
    refine tag_setCells _ _ _ _ _ ⟨zeroW.toArray, ?_⟩
    rw [hU]
    show (A.heap.push _)[A.heap.size]? = _
    simp
  have B1X : Hid (Below w1.heap.size w1 X) := BA.out.trans (RX.out.2.mono (by omega))
  have WX : Hid (Wr w X A.heap.size r (.slice (some ⟨w1.heap.size, 0, none⟩) 1 1) [(k : Int)]) := ⟨RX.out.1, TX.out, own_below OA.out RX.out.2 (Nat.le_refl _), B1.out.trans (B1X.out.mono (by omega)), by omega⟩
  have QX : Hid (Blk X w.heap.size (rcs r)) := Q1.out.on B1X.out
  have BWX : Hid (Below w.heap.size w X) := B1.out.trans (B1X.out.mono (by omega))
  have L0 : Hid (Lw w (X.iter S 0) X.heap.size A.heap.size S 0 r ((k : Int) :: (xs.take 0).flatMap (wrF r))) := ⟨⟨_, WX.out.on ((Below.refl _ _).alloc (Nat.le_refl _) _)⟩, World.iter_heap _ _ _⟩
  have zX : w.heap.size < X.heap.size := QX.out.lt
  have eX : Hid (((w1.alloc (.cells #[.int .u8 (k : Int)] 5)).alloc (.cells #[.int .i64 0, .int .i64 0, .int .i64 0, .int .i64 0, .int .i64 0, .bool false, .int .i64 0, .int .i64 0, .int .i64 0, .string ⟨#[]⟩, .string ⟨#[]⟩, .string ⟨#[]⟩, .string ⟨#[]⟩, .int .i64 0, .int .i64 0, .slice none 0 0, .int .i64 0, .int .i64 0, .slice none 0 0] 66)).setCells (w1.heap.size + 1) 0 (rcs r ++ [Value.slice (some ⟨w1.heap.size, 0, none⟩) 1 1]) = X) := by show _ = _; rw [hX, hU, hAs, hA]; rfl
  have TH' : Hid (((w1.alloc (.cells #[.int .u8 (k : Int)] 5)).alloc (.cells #[.int .i64 0, .int .i64 0, .int .i64 0, .int .i64 0, .int .i64 0, .bool false, .int .i64 0, .int .i64 0, .int .i64 0, .string ⟨#[]⟩, .string ⟨#[]⟩, .string ⟨#[]⟩, .string ⟨#[]⟩, .int .i64 0, .int .i64 0, .slice none 0 0, .int .i64 0, .int .i64 0, .slice none 0 0] 66)).there (w1.heap.size + 1) 0 19) := by
    have h := TH.out
    rw [hU, hAs, hA] at h
    exact h
  rw [hAs] at L0
  have HQ1 : Hid (w.heap.size ≤ w1.heap.size) := by show _ ≤ _; omega
  clear hA hU hX hAs BA BU OA QU TH RX TX B1X WX
  obtain ⟨q, hq⟩ : ∃ q, Hid (w1.heap.size + 1 = q) := ⟨_, rfl⟩
  go_upto_region 4 with fail
  refine wp_region_lit ?_
  refine wpList_load_mid rfl 31 _ rfl w.heap.size 0 rfl (rcs r) _ Q1.out.range Tryz.underlying31 rfl (by kernel_rfl) ?_
  go_upto_region 5 with (first | (refine wpList_build rfl 66 _ rfl [(0, Value.agg (rcs r).toArray), (1, Value.slice (some ⟨w1.heap.size, 0, none⟩) 1 1)] rfl _ (built_writer r _ _ _) ?_) | (refine wpList_store_mid rfl 66 _ _ rfl (w1.heap.size + 1) 0 (rcs r ++ [Value.slice (some ⟨w1.heap.size, 0, none⟩) 1 1]).toArray rfl rfl TH'.out (by kernel_rfl) (by kernel_rfl) ?_))
  rw [eX.out]
  have c0' : X.cell? ⟨w.heap.size, 0, none⟩ = some (.int .i64 (k : Int)) := by rw [← HKK.out]; exact QX.out.cell 0 _ (rcs0 r)
  have qr : X.cell? ⟨0, k, none⟩ = some (.string S) := by rw [← hS.out]; exact HW.out.below BWX.out (Nat.le_refl _) k hk6
  have HQ2 : Hid (w.heap.size ≤ X.heap.size) := by show _ ≤ _; omega
  rw [hq.out] at L0
  rw [hq.out]
  clear c0 eX TH' hq
  go_wp2
  clear c0' qr
  go_loopw [9] (fun _ wr => ∃ p : Nat, p ≤ xs.length ∧ Hid (Lw w wr X.heap.size q S p r ((k : Int) :: (xs.take p).flatMap (wrF r)))) (fun _ wr => xs.length - wr.iterPos X.heap.size)
  case atStart => exact ⟨0, Nat.zero_le _, L0⟩
  case round =>
    obtain ⟨p, hp, HP⟩ := hrel
    by_cases hlt : p < xs.length
    · have hnx := fun ty => lts_next (P := Tryz.prog) HL.out HP.out.iter hlt ty
      have HP1 : Hid (Lw w (wr.iterAt X.heap.size S (p + 1)) X.heap.size q S (p + 1) r ((k : Int) :: (xs.take p).flatMap (wrF r))) := HP.out.next HQ2.out (p + 1)
      have hx : Hid (Ltr (xs.getD p 0)) := HL.out.ltr hlt
      have hfit : Hid (fitF r (xs.getD p 0)) := (HAll.out (xs.getD p 0) (by rw [List.getD, List.getElem?_eq_getElem hlt]; exact List.getElem_mem hlt)).2
      have HFN : Hid (((k : Int) :: (xs.take p).flatMap (wrF r)) ++ wrF r (xs.getD p 0) = (k : Int) :: (xs.take (p + 1)).flatMap (wrF r)) := flat_next hlt (k : Int)
      have hsm : Hid (((k : Int) :: (xs.take p).flatMap (wrF r)).length ≤ 800000) := by show _ ≤ _; have := flat_small (r := r) h6.out HAll.out p (k : Int); omega
      have hpos := hide HP.out.pos
      obtain ⟨x, hxx⟩ : ∃ x, Hid (xs.getD p 0 = x) := ⟨_, rfl⟩
      rw [hxx.out] at hnx hx hfit HFN
      obtain ⟨O, hO⟩ : ∃ O, Hid ((k : Int) :: (xs.take p).flatMap (wrF r) = O) := ⟨_, rfl⟩
      obtain ⟨O', hO'⟩ : ∃ O', Hid ((k : Int) :: (xs.take (p + 1)).flatMap (wrF r) = O') := ⟨_, rfl⟩
      rw [hO.out] at HP1 HFN hsm
      rw [hO'.out] at HFN
      clear HP hxx
      generalize wr.iterAt X.heap.size S (p + 1) = w4 at *
      have hx' := hx.out
      clear hx
      rcases hx' with rfl | rfl | rfl | rfl | rfl | rfl | rfl | rfl
      · have HF : Hid (fitF r 119) := hfit.out
        have hf0 := field_0
        go_wp2_with fail
        refine (fieldOf_id _).mono ?_
        rintro e w5 ⟨rfl, hb5⟩
        have L5 := hide (HP1.out.on hb5)
        clear hb5
        go_wp2_with fail
        have W5 := L5.out.wtr
        refine (wid_any w q r _ _ W5 HF.out hsm.out).mono ?_
        rintro e w6 ⟨rfl, W6, K6⟩
        rw [HFN.out] at W6
        have L6 := hide (L5.out.put W6 K6)
        clear W5 W6 K6
        go_wp2
        go_roundw
        case rel => exact ⟨p + 1, by omega, by rw [hO'.out]; exact L6⟩
        case measure => have h1 := hpos.out; have h2 := L6.out.pos; rw [h1, h2]; omega
      · have HF : Hid (fitF r 110) := hfit.out
        have hf0 := field_0
        go_wp2_with fail
        refine (fieldOf_n _).mono ?_
        rintro e w5 ⟨rfl, hb5⟩
        have L5 := hide (HP1.out.on hb5)
        clear hb5
        go_wp2_with fail
        have W5 := L5.out.wtr
        refine (wsize_any w q r _ _ W5 HF.out hsm.out).mono ?_
        rintro e w6 ⟨rfl, W6, K6⟩
        rw [HFN.out] at W6
        have L6 := hide (L5.out.put W6 K6)
        clear W5 W6 K6
        go_wp2
        go_roundw
        case rel => exact ⟨p + 1, by omega, by rw [hO'.out]; exact L6⟩
        case measure => have h1 := hpos.out; have h2 := L6.out.pos; rw [h1, h2]; omega
      · have HF : Hid (fitF r 105) := hfit.out
        have hf0 := field_0
        go_wp2_with fail
        refine (fieldOf_inst _).mono ?_
        rintro e w5 ⟨rfl, hb5⟩
        have L5 := hide (HP1.out.on hb5)
        clear hb5
        go_wp2_with fail
        have W5 := L5.out.wtr
        refine (winst_any w q r _ _ W5 HF.out hsm.out).mono ?_
        rintro e w6 ⟨rfl, W6, K6⟩
        rw [HFN.out] at W6
        have L6 := hide (L5.out.put W6 K6)
        clear W5 W6 K6
        go_wp2
        go_roundw
        case rel => exact ⟨p + 1, by omega, by rw [hO'.out]; exact L6⟩
        case measure => have h1 := hpos.out; have h2 := L6.out.pos; rw [h1, h2]; omega
      · have HF : Hid (fitF r 98) := hfit.out
        have hf0 := field_0
        go_wp2_with fail
        refine (fieldOf_bal _).mono ?_
        rintro e w5 ⟨rfl, hb5⟩
        have L5 := hide (HP1.out.on hb5)
        clear hb5
        go_wp2_with fail
        have W5 := L5.out.wtr
        refine (wballot_any w q r _ _ W5 HF.out hsm.out).mono ?_
        rintro e w6 ⟨rfl, W6, K6⟩
        rw [HFN.out] at W6
        have L6 := hide (L5.out.put W6 K6)
        clear W5 W6 K6
        go_wp2
        go_roundw
        case rel => exact ⟨p + 1, by omega, by rw [hO'.out]; exact L6⟩
        case measure => have h1 := hpos.out; have h2 := L6.out.pos; rw [h1, h2]; omega
      · have HF : Hid (fitF r 115) := hfit.out
        have hf0 := field_0
        go_wp2_with fail
        refine (fieldOf_same _).mono ?_
        rintro e w5 ⟨rfl, hb5⟩
        have L5 := hide (HP1.out.on hb5)
        clear hb5
        go_wp2_with fail
        have W5 := L5.out.wtr
        refine (wsame_any w q r _ _ W5 HF.out hsm.out).mono ?_
        rintro e w6 ⟨rfl, W6, K6⟩
        rw [HFN.out] at W6
        have L6 := hide (L5.out.put W6 K6)
        clear W5 W6 K6
        go_wp2
        go_roundw
        case rel => exact ⟨p + 1, by omega, by rw [hO'.out]; exact L6⟩
        case measure => have h1 := hpos.out; have h2 := L6.out.pos; rw [h1, h2]; omega
      · have HF : Hid (fitF r 99) := hfit.out
        have hf0 := field_0
        go_wp2_with fail
        refine (fieldOf_cmd _).mono ?_
        rintro e w5 ⟨rfl, hb5⟩
        have L5 := hide (HP1.out.on hb5)
        clear hb5
        go_wp2_with fail
        have W5 := L5.out.wtr
        refine (wcmd_any w q r _ _ W5 HF.out hsm.out (HK.out.below (W5.low) (Nat.le_refl _)) HR.out.k1 HR.out.k2 hn1 hn2).mono ?_
        rintro e w6 ⟨rfl, W6, K6⟩
        rw [HFN.out] at W6
        have L6 := hide (L5.out.put W6 K6)
        clear W5 W6 K6
        go_wp2
        go_roundw
        case rel => exact ⟨p + 1, by omega, by rw [hO'.out]; exact L6⟩
        case measure => have h1 := hpos.out; have h2 := L6.out.pos; rw [h1, h2]; omega
      · have HF : Hid (fitF r 113) := hfit.out
        have hf0 := field_0
        go_wp2_with fail
        refine (fieldOf_seq _).mono ?_
        rintro e w5 ⟨rfl, hb5⟩
        have L5 := hide (HP1.out.on hb5)
        clear hb5
        go_wp2_with fail
        have W5 := L5.out.wtr
        refine (wseq_any w q r _ _ W5 HF.out hsm.out).mono ?_
        rintro e w6 ⟨rfl, W6, K6⟩
        rw [HFN.out] at W6
        have L6 := hide (L5.out.put W6 K6)
        clear W5 W6 K6
        go_wp2
        go_roundw
        case rel => exact ⟨p + 1, by omega, by rw [hO'.out]; exact L6⟩
        case measure => have h1 := hpos.out; have h2 := L6.out.pos; rw [h1, h2]; omega
      · have HF : Hid (fitF r 100) := hfit.out
        have hf0 := field_0
        go_wp2_with fail
        refine (fieldOf_deps _).mono ?_
        rintro e w5 ⟨rfl, hb5⟩
        have L5 := hide (HP1.out.on hb5)
        clear hb5
        go_wp2_with fail
        have W5 := L5.out.wtr
        refine (wdeps_any w q r _ _ W5 HF.out hsm.out (HR.out.seg.below (W5.low) (Nat.le_refl _))).mono ?_
        rintro e w6 ⟨rfl, W6, K6⟩
        rw [HFN.out] at W6
        have L6 := hide (L5.out.put W6 K6)
        clear W5 W6 K6
        go_wp2
        go_roundw
        case rel => exact ⟨p + 1, by omega, by rw [hO'.out]; exact L6⟩
        case measure => have h1 := hpos.out; have h2 := L6.out.pos; rw [h1, h2]; omega
    · have hnx := fun ty => lts_end (P := Tryz.prog) HL.out HP.out.iter hlt ty
      have HE : Hid ((k : Int) :: (xs.take p).flatMap (wrF r) = recB r) := by show _ = _; rw [HB.out, List.take_of_length_le (by omega)]
      rw [HE.out] at HP
      obtain ⟨v, hv⟩ := HP.out.wtr
      have c18 : wr.cell? ⟨q, 18, none⟩ = some v := hv.out18
      have HV := hide hv
      clear hv HE
      go_wp2
      go_ret2
      exact ⟨v, rfl, HV.out.own, HV.out.low⟩
end Go.Proofs.YtnogdjpbnhnmaaaGreatDoor
