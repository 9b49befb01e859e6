/- The walk of CommandSpoilt: it answers true at every version, command, place and number. -/
import Derived.Test.YtjojiccojmajoaaDoorDSpoilt
import Derived.Test.YtjojiccojmajoaaDoorEEnc
import Derived.Test.YtjojiccojmajoaaDoorHNum
import Derived.Test.YtjojiccojmajoaaDoorHPut
namespace Go.Proofs.YtjojiccojmajoaaDoor
namespace commandSpoilt
open Go.RowKit Go.Wire1

theorem k1 : chk 1 ⟨2, 7, 300, ⟨#[107]⟩, ⟨#[]⟩, ⟨#[118, 119]⟩, ⟨#[]⟩, 0⟩ = 0 := by decide +kernel
theorem k9 : (encC ⟨2, 7, 300, ⟨#[107]⟩, ⟨#[]⟩, ⟨#[118, 119]⟩, ⟨#[]⟩, 0⟩).length = 9 := by decide +kernel

theorem tmod0 (x : Int) : Int.tmod x 256 = 0 ↔ x % 256 = 0 :=
  ⟨fun h => Int.emod_eq_zero_of_dvd (Int.dvd_of_tmod_eq_zero h), fun h => Int.tmod_eq_zero_of_dvd (Int.dvd_of_emod_eq_zero h)⟩
set_option maxHeartbeats 2000000 in
set_option maxRecDepth 100000 in
theorem walk (v : Int) (c : Cm) (p x : Int) (a : Nat → Addr) (w : World) (he : Errs w a) (hK : Knd w) (hk : c.key.size ≤ 140737488351232) (hk2 : c.key2.size ≤ 140737488351232) (hn1 : -9223372036854775808 ≤ c.n) (hn2 : c.n ≤ 9223372036854775807) :
    Calls Tryd.prog 3 #[.int .i64 v, .agg #[.int .i64 c.kind, .int .i64 c.client, .int .i64 c.req, .string c.key, .string c.key2, .string c.val, .string c.old, .int .i64 c.n], .int .i64 p, .int .i64 x] w fun e w' => e = .returned (.bool true) ∧ Below w.heap.size w w' := by
  obtain ⟨V, hV⟩ : ∃ V, V = w.alloc (.cells #[.int .i64 c.kind, .int .i64 c.client, .int .i64 c.req, .string c.key, .string c.key2, .string c.val, .string c.old, .int .i64 c.n] 23) := ⟨_, rfl⟩
  have X : Hid (CBox V w.heap.size c.kind c.client c.req c.key c.key2 c.val c.old c.n) := by rw [hV]; exact cbox_new w 23 _ _ _ _ _ _ _ _
  have BV : Hid (Below w.heap.size w V) := by rw [hV]; exact (Below.refl _ _).alloc (Nat.le_refl _) _
  have hVs : w.heap.size ≤ V.heap.size := BV.out.size
  have HK : Hid (Knd V) := hK.below BV.out (Nat.le_refl _)
  have HE : Hid (Errs V a) := he.below BV.out (Nat.le_refl _)
  have none' : Hid ((⟨#[]⟩ : ByteArray).size ≤ 140737488351232) := by show (0 : Nat) ≤ _; omega
  have one' : Hid ((⟨#[107]⟩ : ByteArray).size ≤ 140737488351232) := by show (1 : Nat) ≤ _; omega
  clear he hK
  go_enter Tryd.func3, Tryd.ntmps3
  go_wp2_with fail
  rw [← hV]
  clear hV
  refine (put_any _ _).mono ?_
  rintro e w1 ⟨rfl, hb1⟩
  have B1 : Hid (Below V.heap.size V w1) := hb1
  clear hb1
  go_wp2_with fail
  refine (encode_any 1 ⟨2, 7, 300, ⟨#[107]⟩, ⟨#[]⟩, ⟨#[118, 119]⟩, ⟨#[]⟩, 0⟩ _ (HK.out.below B1.out (Nat.le_refl _)) one'.out none'.out (by decide) (by decide) k1).mono ?_
  rintro e w2 ⟨u2, rfl, o2, hb2⟩
  have B2 : Hid (Below V.heap.size V w2) := low_on B1.out hb2 B1.out.size
  obtain ⟨a2, c2, hu2, _, _, _⟩ := seg_own o2
  subst hu2
  rw [k9]
  clear hb2 o2 B1
  obtain ⟨x0, x1, x2, x3, x4, x5, x6, x7⟩ := X.out.below B2.out (Nat.le_refl _)
  go_wp2_with fail
  refine (num_any _ _).mono ?_
  rintro e w3 ⟨rfl, rfl⟩
  go_wp2_with fail
  by_cases hz : chk v c = 0
  · refine (encode_any v c _ (HK.out.below B2.out (Nat.le_refl _)) hk hk2 hn1 hn2 hz).mono ?_
    rintro e w4 ⟨u4, rfl, o4, hb4⟩
    have B4 : Hid (Below V.heap.size V w4) := low_on B2.out hb4 B2.out.size
    obtain ⟨g, cap, hu4, M4⟩ := mine_of o4 (encC_pos c)
    subst hu4
    have hgw : V.heap.size ≤ g := Nat.le_trans B2.out.size M4.2.2.2.2
    have hcap := M4.2.2.2.1
    have hcap2 := M4.2.2.1
    have HM := hide M4
    have hs := sound_of hz
    have SP : ∀ k z, Hid (k < (encC c).length → (0 ≤ z ∧ z < 256) → (encC c).getD k 0 ≠ z → (decC v ((encC c).set k z)).2.2 = 0 → sameC c (decC v ((encC c).set k z)).1 = false) := fun k z => spoilt hz
    have HY := hide (byt_encC hs.k0 hs.k8)
    clear hb4 o4 B2 M4 hs hz x0 x1 x2 x3 x4 x5 x6 x7
    obtain ⟨E, hE⟩ : ∃ E, Hid (encC c = E) := ⟨_, rfl⟩
    rw [hE.out] at HM HY hcap2 ⊢
    simp only [hE.out] at SP
    obtain ⟨m, hm⟩ : ∃ m, Hid (E.length = m) := ⟨_, rfl⟩
    rw [hm.out] at HM hcap2 ⊢
    simp only [hm.out] at SP
    clear hE
    go_wp2_with fail
    refine (num_any _ _).mono ?_
    rintro e w5 ⟨rfl, rfl⟩
    by_cases h0 : p < 0
    · go_wp2
      go_ret
      exact ⟨rfl, BV.out.trans (B4.out.mono hVs)⟩
    · by_cases h1 : (m : Int) ≤ p
      · go_wp2
        go_ret
        exact ⟨rfl, BV.out.trans (B4.out.mono hVs)⟩
      · obtain ⟨k, rfl⟩ := Int.eq_ofNat_of_zero_le (show 0 ≤ p by omega)
        have hkm : k < m := by omega
        by_cases h2 : x % 256 = 0
        · have h3 : Int.tmod x 256 = 0 := (tmod0 x).2 h2
          go_wp2
          go_ret
          exact ⟨rfl, BV.out.trans (B4.out.mono hVs)⟩
        · have h3 : ¬ Int.tmod x 256 = 0 := fun q => h2 ((tmod0 x).1 q)
          have q0 : decide ((k : Int) < 0) = false := decide_eq_false (by omega)
          have q1 : decide (m ≤ k) = false := decide_eq_false (by omega)
          have q2 : (Int.tmod x 256 == 0) = false := by rw [beq_eq_false_iff_ne]; exact h3
          obtain ⟨b', o', e', hc'⟩ := HM.out.seg.2.2 (by omega)
          cases e'
          have hck := hc' k (by omega)
          rw [Nat.zero_add] at hck
          have hfr := HM.out.1.frozenAt k
          have hzb : Hid (0 ≤ E.getD k 0 ∧ E.getD k 0 < 256) := HY.out _ (by rw [List.getD_eq_getElem?_getD, List.getElem?_eq_getElem (by have := hm.out; omega)]; exact List.getElem_mem _)
          clear hc'
          have SPk := SP k
          clear SP
          have HS := fun z => hide (HM.out.store k z)
          have hyk : ∀ z, Hid (0 ≤ z ∧ z < 256 → Byt (E.set k z)) := fun z q => byt_set HY.out k q
          obtain ⟨y, hy⟩ : ∃ y, Hid (E.getD k 0 = y) := ⟨_, rfl⟩
          rw [hy.out] at hck hzb SPk
          have hxb : Hid (0 ≤ x % 256 ∧ x % 256 < 256) := ⟨by omega, by omega⟩
          have ex : bits .xor .u8 y (x % 256) = ((y.toNat ^^^ (x % 256).toNat : Nat) : Int) := u8_xor y (x % 256) hzb.out.1 hzb.out.2 hxb.out.1 hxb.out.2
          obtain ⟨z, hz⟩ : ∃ z, Hid (((y.toNat ^^^ (x % 256).toNat : Nat) : Int) = z) := ⟨_, rfl⟩
          have hz1 : Hid (0 ≤ z ∧ z < 256) := by
            have h : y.toNat ^^^ (x % 256).toNat < 2 ^ 8 := Nat.xor_lt_two_pow (by have := hzb.out; omega) (by omega)
            rw [← hz.out]
            exact ⟨by omega, by omega⟩
          have hz2 : Hid (y ≠ z) := fun q => by
            have h : y.toNat ^^^ (x % 256).toNat ≠ y.toNat := nat_xor_ne (by omega)
            have := hz.out
            have := hzb.out
            omega
          rw [hz.out] at ex
          have HSz := HS z
          have hyz := hide ((hyk z).out hz1.out)
          have SPz := hide ((SPk z).out hkm hz1.out hz2.out)
          have B5 : Hid (Below V.heap.size V (w4.setCell ⟨g, k, none⟩ (.int .u8 z))) := B4.out.setCell (by show V.heap.size ≤ g; omega) _
          clear HS hyk SPk hz1 hz2 hz hzb HM
          obtain ⟨L, hL⟩ : ∃ L, Hid (E.set k z = L) := ⟨_, rfl⟩
          rw [hL.out] at HSz hyz SPz
          clear hL hy HY
          go_wp2_with fail
          refine (decode_any (some ⟨g, 0, none⟩) m cap L a v _ (by exact HSz.out.seg) hyz.out (HE.out.below B5.out (Nat.le_refl _)) (HK.out.below B5.out (Nat.le_refl _)) hcap2 (by simp only [maxLen] at hcap; omega) (by intro q; cases q)).mono ?_
          rintro e w6 ⟨rfl, hb6⟩
          have B6 : Hid (Below V.heap.size V w6) := low_on B5.out hb6 B5.out.size
          obtain ⟨⟨d0, d1, d2, d3, d4, d5, d6, d7⟩, hD1⟩ : ∃ d, Hid ((decC v L).1 = d) := ⟨_, rfl⟩
          obtain ⟨er, hDe⟩ : ∃ er, Hid ((decC v L).2.2 = er) := ⟨_, rfl⟩
          rw [hD1.out, hDe.out]
          rw [hD1.out, hDe.out] at SPz
          simp only
          clear hb6 B5 B4 HSz hyz hD1 hDe hck hfr
          obtain ⟨x0, x1, x2, x3, x4, x5, x6, x7⟩ := X.out.below (B6.out.alloc B6.out.size (.cells #[.int .i64 d0, .int .i64 d1, .int .i64 d2, .string d3, .string d4, .string d5, .string d6, .int .i64 d7] 23)) (Nat.le_refl _)
          go_wp2_with fail
          refine (sameCmd_any c ⟨d0, d1, d2, d3, d4, d5, d6, d7⟩ _).mono ?_
          rintro e w7 ⟨rfl, hb7⟩
          have B7 : Hid (Below V.heap.size V w7) := by
            refine low_on (B6.out.alloc B6.out.size _) hb7 ?_
            simp
            have := B6.out.size
            omega
          by_cases h6 : er = 0
          · subst h6
            rw [SPz.out rfl]
            clear SPz hb7 B6 x0 x1 x2 x3 x4 x5 x6 x7
            go_wp2_with fail
            refine (num_any _ _).mono ?_
            rintro e w8 ⟨rfl, rfl⟩
            go_wp2
            go_ret
            exact ⟨rfl, BV.out.trans (B7.out.mono hVs)⟩
          · have g1 : (er == 0) = false := by rw [beq_eq_false_iff_ne]; exact h6
            have g2 : (er != 0) = true := by rw [bne_iff_ne]; exact h6
            clear SPz hb7 B6 x0 x1 x2 x3 x4 x5 x6 x7
            go_wp2_with fail
            refine (num_any _ _).mono ?_
            rintro e w8 ⟨rfl, rfl⟩
            go_wp2
            go_ret
            exact ⟨rfl, BV.out.trans (B7.out.mono hVs)⟩
  · refine (encode_no v c _ (HK.out.below B2.out (Nat.le_refl _)) hk hk2 hz).mono ?_
    rintro e w4 ⟨rfl, hb4⟩
    have B4 : Hid (Below V.heap.size V w4) := low_on B2.out hb4 B2.out.size
    clear hb4 x0 x1 x2 x3 x4 x5 x6 x7
    generalize chk v c = z at *
    have g1 : (((z : Nat) : Int) == 0) = false := by rw [beq_eq_false_iff_ne]; omega
    have g2 : (((z : Nat) : Int) != 0) = true := by rw [bne_iff_ne]; omega
    go_wp2_with fail
    refine (num_any _ _).mono ?_
    rintro e w5 ⟨rfl, rfl⟩
    go_wp2
    go_ret
    exact ⟨rfl, BV.out.trans (B4.out.mono hVs)⟩
end commandSpoilt
end Go.Proofs.YtjojiccojmajoaaDoor
