/- DiskTorn's walk, bytes appended first. -/
import Derived.Test.YtbgahocmabiaeaaDkTornA
namespace Go.Proofs.Ytbgahocmabiaeaa
open Go.RowKit Go.Wire1 Go.MuLone

set_option maxHeartbeats 8000000 in
set_option maxRecDepth 100000 in
theorem torn_some (ad : Addr) (n ca : Nat) (l : List Int) (pa : Option Addr) (pn pc : Nat) (ls : List LS) (kz : Int) (w : World) (hP : LSeg w pa pn ls) (hkb : I64 kz) (hS : Seg w (some ad) n l) (hSY : Byt l) (hn47 : n ≤ 140737488351232) (hn0 : 0 < n) (hbig : 3 + n ≤ 4194304) :
    Calls Try.prog 4 #[.slice (some ad) n ca, .slice pa pn pc, .int .i64 kz] w fun e w' => e = .returned (.bool true) ∧ Below w.heap.size w w' := by
  have SA := hide hS
  have HSY := hide hSY
  have HSL := hide hS.1
  clear hS hSY
  have HP := hide hP
  have hpn : pn ≤ 5864062014634 := by have := hP.top; omega
  clear hP
  have kc := fun (w : World) (C : Array Value) (n c : Nat) => Lib.run_convert_bytes_const (P := Try.prog) w 22 5 C n c Try.underlying22 Try.underlying5
  go_enter Try.func4, Try.ntmps4
  go_wp2_with fail
  refine (abc_any _ w.heap.size (Nat.le_refl _)).mono ?_
  rintro e w1 ⟨b, p1, rfl, hbl, d1, hb1, _⟩
  have D1 := hide d1
  have B1 := hide hb1
  have HBL := hide hbl
  clear d1 hb1 hbl
  go_wp2_with fail
  refine (sync_any _ b p1 [97, 98, 99] 0 _ D1.out).mono ?_
  rintro e w2 ⟨rfl, k2⟩
  have D2 := hide k2.dsk
  have B2 := hide (B1.out.trans (k2.below D1.out))
  clear k2 D1 B1
  go_wp2_with fail
  refine (append_some _ b p1 [97, 98, 99] _ _ ad n ca l D2.out (SA.out.below B2.out (Nat.le_refl _)) HSY.out (fun h0 => by have h1 := SA.out.lt h0 rfl; have := HBL.out; omega) (by show 3 + n ≤ 4194304; omega)).mono ?_
  rintro e w3 ⟨rfl, p3, k3⟩
  have D3 := hide k3.dsk
  have B3 := hide (B2.out.trans (k3.below D2.out))
  clear k3 D2 B2
  obtain ⟨Bs, hBs⟩ : ∃ Bs : List Int, Bs = [97, 98, 99] ++ l := ⟨_, rfl⟩
  rw [← hBs] at D3
  go_wp2_with fail
  refine (sync_any _ b p3 Bs _ _ D3.out).mono ?_
  rintro e w4 ⟨rfl, k4⟩
  have D4 := hide k4.dsk
  have B4 := hide (B3.out.trans (k4.below D3.out))
  clear k4 D3 B3
  obtain ⟨mk, hmk⟩ : ∃ mk : Nat, mk = 3 + n := ⟨_, rfl⟩
  have hbl3 : Bs.length = mk := by rw [hBs, hmk, List.length_append, HSL.out]; rfl
  have hA5 : Below w4.heap.size w4 (w4.alloc (.cells #[.int .u8 97, .int .u8 98, .int .u8 99] 5 (3, 4))) := (Below.refl _ _).alloc (Nat.le_refl _) _
  obtain ⟨g0, c0, w6, hr0, hg0, hO6, hb6⟩ := app_full9 (w4.alloc (.cells #[.int .u8 97, .int .u8 98, .int .u8 99] 5 (3, 4))) w4.heap.size 0 3 n ca ad [97, 98, 99] l (seg_three w4 97 98 99 (3, 4)) (SA.out.below (B4.out.trans (hA5.mono B4.out.size)) (Nat.le_refl _)) hn0 (by omega)
  rw [← hBs] at hO6
  rw [← hmk] at hO6 hr0
  have hg1 : w4.heap.size ≤ g0 := by have := hg0; simp only [sz_alloc] at this; omega
  have B6 := hide ((B4.out.trans (hA5.mono B4.out.size)).trans (hb6.mono (by have := B4.out.size; simp only [sz_alloc]; omega)))
  have D6 : Hid (Dsk 0 w6 b p3 Bs mk w.heap.size) := by have := (D4.out.later hA5).later hb6; rw [hbl3] at this; exact this
  have W6 : Hid (Wnt w6 w.heap.size g0 mk c0 Bs) := by
    obtain ⟨sa, cap', e, _, _, sg⟩ := seg_own (l := Bs) (by rw [hbl3]; exact hO6)
    rw [hbl3] at e sg
    cases e
    have hlo : w.heap.size ≤ g0 := by have := B4.out.size; omega
    refine ⟨sg, .inr ⟨hO6.1, hO6.2.elim .inl fun ⟨g2, cap, cur, e, hB2, r⟩ => .inr ⟨g2, cap, cur, e, ?_, r⟩⟩, (hO6.lt g0 rfl).2, hlo⟩
    cases e
    exact hlo
  have G6 : Hid (g0 ≠ b ∧ p3.ownBlock ≠ some g0) := ⟨by have := D4.out.box.lt; omega, fun e => by have := (D4.out.own.lt _ e).2; omega⟩
  have HBs : Hid (Bs.length = mk) := hbl3
  have hmk3 : Hid (3 ≤ mk) := by show 3 ≤ mk; omega
  have q41 : ¬ ((4194304 : Int) < (mk : Int)) := by omega
  have hmt : mk ≤ 4194304 := by omega
  clear D4 B4 hA5 hBs hmk hbl3 hg0 hg1 hO6 hb6
  go_wp2_with (first | (at_builtin; refine Lib.wpList_append_run _ rfl _ _ _ _ rfl _ _ rfl rfl _ _ (by exact hr0 _) ?_))
  clear hr0 kc
  go_wp2
  go_loopw [8, 10, 11] (fun wv lv iv wr => ∃ (i g wn wc : Nat) (pv : Value) (T : List Int) (z : Int), wv = .slice (some ⟨g, 0, none⟩) wn wc ∧ lv = .int .i64 z ∧ iv = .int .i64 (i : Int) ∧ i ≤ pn ∧ Hid (z = kz - (((T.take kz.toNat).length : Nat) : Int)) ∧ Hid (Dsk 0 wr b pv (Bs ++ T) mk w.heap.size) ∧ Hid (Wnt wr w.heap.size g wn wc (Bs ++ T.take kz.toNat)) ∧ Hid (g ≠ b ∧ pv.ownBlock ≠ some g) ∧ Hid (Below w.heap.size w wr)) (fun _ _ iv _ => pn - (intOf iv).toNat)
  case atStart => exact ⟨0, g0, mk, c0, p3, [], kz, rfl, rfl, rfl, Nat.zero_le _, by show kz = _; simp, by rw [List.append_nil]; exact D6, by rw [List.take_nil, List.append_nil]; exact W6, G6, B6⟩
  case round =>
    clear D6 W6 G6 B6
    obtain ⟨i, g, wn, wc, pv, T, z, rfl, rfl, rfl, hi, HZ, HD, HW, HG, HB⟩ := hrel
    have hbl : b < wr.heap.size := HD.out.box.lt
    by_cases hlt : i < pn
    · obtain ⟨pb, po, rfl, hat⟩ := HP.out.at_ (by omega)
      obtain ⟨s, hs⟩ : ∃ s, s = ls.getD i lsZ := ⟨_, rfl⟩
      have KP := hide ((HP.out.ok i hlt).below HB.out (Nat.le_refl _))
      have cp0 := hat i hlt
      rw [← hs] at KP cp0
      have CP0 := hide cp0
      have cp : wr.cell? ⟨pb, po + i, none⟩ = some (.slice s.a s.n s.cap) := (HB.out.cell (p := ⟨pb, po + i, none⟩) (cell_lt cp0)).trans cp0
      have KW : Hid (LsOk w s) := by have := HP.out.ok i hlt; rw [← hs] at this; exact this
      clear hs cp0
      obtain ⟨xa, xn, xc, p⟩ := s
      simp only at cp
      have hpl : Hid (p.length = xn) := KP.out.seg.1
      by_cases hfit : 4194304 < (Bs ++ T).length + xn
      · go_wp2_with fail
        refine (append_no _ b pv (Bs ++ T) mk _ xa xn xc HD.out hfit).mono ?_
        rintro e w2 ⟨rfl, hb2⟩
        have D2 := hide (HD.out.later hb2)
        have W2 := hide (HW.out.later hb2)
        have B2 := hide (HB.out.trans (hb2.mono HB.out.size))
        clear hb2 cp
        go_wp2_with fail
        refine (num9_any 91 _).mono ?_
        rintro e w3 ⟨rfl, rfl⟩
        go_wp2
        go_roundw
        case rel => exact ⟨i + 1, g, wn, wc, pv, T, z, rfl, rfl, by go_num, by omega, HZ, D2, W2, HG, B2⟩
        case measure => simp [intOf]; omega
      · go_wp2_with fail
        refine (append_yes _ b pv (Bs ++ T) mk _ xa xn xc p HD.out KP.out.seg KP.out.byt KP.out.nil (fun x hx hn => by have h1 := KW.out.seg.lt hn hx; have := HBL.out; omega) (by omega)).mono ?_
        rintro e w2 ⟨rfl, pv2, k2⟩
        have D2 := hide k2.dsk
        have hgl : g < wr.heap.size := HW.out.lt
        have W2 := hide (HW.out.on (k2.tch.block g hgl HG.out.1 (fun e => HG.out.2 e.symm)) k2.tch.size)
        have G2 : Hid (g ≠ b ∧ pv2.ownBlock ≠ some g) := ⟨HG.out.1, fun e => by
          rcases k2.lat with e2 | e2
          · rw [e2] at e; exact HG.out.2 e
          · have := e2 g e; omega⟩
        have B2 := hide (HB.out.trans (k2.below HD.out))
        clear k2 cp HG HW HD HB KP
        go_wp2_with fail
        refine (num9_any 0 _).mono ?_
        rintro e w3 ⟨rfl, rfl⟩
        go_wp2
        go_loopw [8, 10, 13] (fun wv lv kv wq => ∃ (k g wn wc : Nat) (z : Int), wv = .slice (some ⟨g, 0, none⟩) wn wc ∧ lv = .int .i64 z ∧ kv = .int .i64 (k : Int) ∧ k ≤ xn ∧ Hid (z = kz - ((((T ++ p.take k).take kz.toNat).length : Nat) : Int)) ∧ Hid (Dsk 0 wq b pv2 (Bs ++ T ++ p) mk w.heap.size) ∧ Hid (Wnt wq w.heap.size g wn wc (Bs ++ (T ++ p.take k).take kz.toNat)) ∧ Hid (g ≠ b ∧ pv2.ownBlock ≠ some g) ∧ Hid (Below w.heap.size w wq)) (fun _ _ kv _ => xn - (intOf kv).toNat)
        case atStart => exact ⟨0, g, wn, wc, z, rfl, rfl, rfl, Nat.zero_le _, by rw [List.take_zero, List.append_nil]; exact HZ, D2, by rw [List.take_zero, List.append_nil]; exact W2, G2, B2⟩
        case round =>
          clear HZ D2 W2 G2 B2
          obtain ⟨k, g, wn, wc, z, rfl, rfl, rfl, hk, HZ, HD, HW, HG, HB⟩ := hrel
          have cp : wr.cell? ⟨pb, po + i, none⟩ = some (.slice xa xn xc) := (HB.out.cell (p := ⟨pb, po + i, none⟩) (cell_lt CP0.out)).trans CP0.out
          have HLN : Hid (((T ++ p.take k).take kz.toNat).length = min kz.toNat (T.length + k)) := torn_len (by rw [hpl.out]; exact hk)
          by_cases hkn : k < xn
          · have q1 : (k : Int) < (xn : Int) := by omega
            have KX := hide (KW.out.below HB.out (Nat.le_refl _))
            obtain ⟨xb, xo, hxa, hxc⟩ := KX.out.seg.2.2 (show 0 < xn by omega)
            simp only at hxa hxc
            subst hxa
            have cx : wr.cell? ⟨xb, xo + k, none⟩ = some (.int .u8 (p.getD k 0)) := hxc k hkn
            clear hxc
            by_cases hz0 : 0 < z
            · have hTk : T.length + k < kz.toNat := by
                have h1 := HZ.out; have h2 := HLN.out
                rw [h2] at h1
                omega
              have HST : Hid ((T ++ p.take (k + 1)).take kz.toNat = (T ++ p.take k).take kz.toNat ++ [p.getD k 0]) := torn_step (by rw [hpl.out]; exact hkn) hTk
              have hzb : z ≤ 9223372036854775807 := by have := HZ.out; have := hkb.2; omega
              have hwn : wn ≤ 4194304 := by
                have h1 := HW.out.seg.1
                have h2 := HD.out.top
                rw [List.length_append, HLN.out] at h1
                simp only [List.length_append] at h2
                have := hpl.out
                omega
              have hw0 : 0 < wn := by
                have h1 := HW.out.seg.1
                rw [List.length_append, HBs.out] at h1
                have := hmk3.out
                omega
              generalize p.getD k 0 = c at *
              obtain ⟨g', c', w', hr, hW', hgr, hg'⟩ := HW.out.push c HB.out.size (by omega) hw0
              have HWN := hide hW'
              have HGR := hide hgr
              have hgl : g < wr.heap.size := HW.out.lt
              have HG2 : Hid (g' ≠ b ∧ pv2.ownBlock ≠ some g') := by
                rcases hg' with e | e
                · rw [e]; exact HG.out
                · exact ⟨by have := HD.out.box.lt; omega, fun e2 => by have := (HD.out.own.lt _ e2).2; omega⟩
              have hB' : Hid (Below w.heap.size w w') := (HB.out.alloc HB.out.size _).grown hgr (by have := HB.out.size; simp only [sz_alloc]; omega) (fun j hj => by injection hj with hj; subst hj; exact HW.out.ge)
              have hD' : Hid (Dsk 0 w' b pv2 (Bs ++ T ++ p) mk w.heap.size) := by
                have d1 := HD.out.later ((Below.refl _ _).alloc (Nat.le_refl _) (.cells #[.int .u8 c] 5))
                exact d1.on (hgr.block b d1.box.lt (fun e => by injection e with e; exact HG.out.1 e.symm)) (fun j hj => hgr.block j (d1.own.lt j hj).2 (fun e => by injection e with e; subst e; exact HG.out.2 hj))
              rw [List.append_assoc, ← HST.out] at HWN
              clear hW' hgr hg'
              go_wp2_with (first | (at_builtin; refine Lib.wpList_append_run _ rfl _ _ _ _ rfl _ _ rfl rfl _ _ (by exact hr) ?_))
              clear hr cp cx
              go_wp2
              go_roundw
              case rel => exact ⟨k + 1, g', wn + 1, c', z - 1, rfl, by go_num, by go_num, by omega, by show z - 1 = _; have h1 := HZ.out; rw [HST.out, List.length_append]; have : ([c] : List Int).length = 1 := rfl; omega, hD', HWN, HG2, hB'⟩
              case measure => simp [intOf]; omega
            · have q2 : ¬ ((0 : Int) < z) := hz0
              have HSP : Hid ((T ++ p.take k).take kz.toNat = (T ++ p).take kz.toNat) := torn_stop (by
                have h1 := HZ.out; have h2 := HLN.out
                rw [h2] at h1
                omega)
              rw [HSP.out] at HZ HW
              rw [List.append_assoc] at HD
              go_wp2
              go_roundw
              case rel => exact ⟨i + 1, g, wn, wc, pv2, T ++ p, z, rfl, rfl, by go_num, by omega, HZ, HD, HW, HG, HB⟩
              case measure => simp [intOf]; omega
          · have q1 : ¬ ((k : Int) < (xn : Int)) := by omega
            have HSP : Hid ((T ++ p.take k).take kz.toNat = (T ++ p).take kz.toNat) := torn_all (by rw [hpl.out]; omega)
            rw [HSP.out] at HZ HW
            rw [List.append_assoc] at HD
            go_wp2
            go_roundw
            case rel => exact ⟨i + 1, g, wn, wc, pv2, T ++ p, z, rfl, rfl, by go_num, by omega, HZ, HD, HW, HG, HB⟩
            case measure => simp [intOf]; omega
    · by_cases hk0 : kz < 0
      · go_wp2_with fail
        refine (crash_no _ b pv (Bs ++ T) mk _ kz HD.out hk0).mono ?_
        rintro e w2 ⟨rfl, hb2⟩
        have B2 := hide (HB.out.trans (hb2.mono HB.out.size))
        clear hb2
        go_wp2_with fail
        refine (num9_any 1 _).mono ?_
        rintro e w3 ⟨rfl, rfl⟩
        go_wp2
        go_ret
        exact ⟨rfl, B2.out⟩
      · have hgl : g < wr.heap.size := HW.out.lt
        go_wp2_with fail
        refine (crash_yesI _ b pv (Bs ++ T) mk _ kz HD.out (by omega) hkb.2).mono ?_
        rintro e w2 ⟨rfl, pv2, k2⟩
        have HTC := torn_crash Bs T kz.toNat
        rw [HBs.out] at HTC
        rw [HTC] at k2
        have D2 := hide k2.dsk
        have W2 := hide (HW.out.on (k2.tch.block g hgl HG.out.1 (fun e => HG.out.2 e.symm)) k2.tch.size)
        have B2 := hide (HB.out.trans (k2.below HD.out))
        have SG2 := hide W2.out.seg
        generalize Bs ++ T.take kz.toNat = LF at *
        clear k2 HTC
        go_wp2_with fail
        refine (shows_yes _ b pv2 LF mk _ (some ⟨g, 0, none⟩) wn wc D2.out SG2.out).mono ?_
        rintro e w3 ⟨rfl, hb3⟩
        have B3 := hide (B2.out.trans (hb3.mono B2.out.size))
        clear hb3
        go_wp2_with fail
        refine (num9_any 0 _).mono ?_
        rintro e w4 ⟨rfl, rfl⟩
        go_wp2
        go_ret
        exact ⟨rfl, B3.out⟩
end Go.Proofs.Ytbgahocmabiaeaa
