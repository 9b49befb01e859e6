/- Texts of the proof, joined. -/
import Derived.Test.YtpjdgbhjjknopaaDoorJ05
/- The contracts of the cursor's number, of unfold and of signed. -/
namespace Go.Proofs.YtpjdgbhjjknopaaDoor
open Go.RowKit Go.Wire1

set_option maxHeartbeats 1000000 in
set_option maxRecDepth 100000 in
theorem number_any (b o n cap : Nat) (sa : Option Addr) (l : List Int) (k : Nat) (a : Nat → Addr) (w : World) (hc : Cur w b o sa n cap k) (hs : Seg w sa n l) (hsep : ∀ x, sa = some x → 0 < n → x.block ≠ b) (hy : Byt l) (hk : k ≤ n) (he : Errs w a) (h5 : 6 ≤ b) (hab : ∀ i, i < 5 → (a i).block ≠ b) :
    Calls Tryd.prog 54 #[.pointer (some ⟨b, o, none⟩)] w fun e w' => Only b (o + 1) w w' ∧ ∃ k', Cur w' b o sa n cap k' ∧ k' ≤ n ∧ Out a (dec (l.drop k)) e k k' := by
  have hn := hs.2.1
  go_enter Tryd.func54, Tryd.ntmps54
  go_wp2
  go_loopw [3, 6] (fun s c wr => ∃ (x i : Nat), s = .int .u64 (x : Int) ∧ c = .int .i64 (i : Int) ∧ i ≤ 9 ∧ Hid (x < 128 ^ i) ∧ k + i ≤ n ∧ Only b (o + 1) w wr ∧ Cur wr b o sa n cap (k + i) ∧ Hid (dec (l.drop k) = comb x i (decF (9 - i) (decide (i = 0)) (l.drop (k + i)))))
    (fun _ c _ => 9 - (intOf c).toNat)
  case atStart => exact ⟨0, 0, rfl, rfl, by omega, by simp [Hid], by omega, Only.refl _ _ _, hc, comb_zero _⟩
  case round =>
    obtain ⟨x, i, rfl, rfl, hi, HX, hki, ho, hcur, HR⟩ := hrel
    have hs' := ho.seg hs hsep
    have he' := he.only ho h5 hab
    by_cases h9 : i < 9
    · obtain ⟨f, hf⟩ : ∃ f, 9 - i = f + 1 := ⟨8 - i, by omega⟩
      rw [hf] at HR
      by_cases hkn : k + i = n
      · have HQ : Hid (dec (l.drop k) = .error 0) := by
          have h1 := HR.out
          have hd : l.drop (k + i) = [] := by rw [List.drop_eq_nil_iff, hs.1]; omega
          rw [hd, decF_nil] at h1; exact h1
        rw [hkn] at hcur
        go_wp2_with fail
        refine (next_end b o n cap _ a _ hcur hn he').mono ?_
        rintro e w1 ⟨rfl, ho1, hc1⟩
        go_wp2
        refine ⟨rfl, ho.trans ho1, n, hc1, Nat.le_refl _, ?_⟩
        rw [HQ.out]; rfl
      · have hz := byt_at hy (k + i)
        have HD : Hid (l.drop (k + i) = l.getD (k + i) 0 :: l.drop (k + i + 1)) := drop_cons (by rw [hs.1]; omega)
        go_wp2_with fail
        refine (next_ok b o n cap _ l (k + i) _ hcur hs' (by omega)).mono ?_
        rintro e w1 ⟨rfl, ho1, hc1⟩
        generalize l.getD (k + i) 0 = z at *
        have HO : Hid (Only b (o + 1) w w1) := ho.trans ho1
        have he1 := he'.only ho1 h5 hab
        by_cases hbig : 128 ≤ z
        · go_wp2
          refine ⟨⟨x + 128 ^ i * (z.toNat % 128), i + 1, by rw [or_step x i z HX.out h9 hz], by go_num, by omega, step_lt _ _ _ HX.out (Nat.mod_lt _ (by decide)), by omega, HO, hc1, ?_⟩, by simp [intOf]; omega⟩
          have h1 := HR.out
          rw [HD.out, decF_more _ _ _ _ _ _ hbig] at h1
          have e1 : 9 - (i + 1) = f := by omega
          have e2 : z.toNat % 128 = (z - 128).toNat := by omega
          have e3 : decide (i + 1 = 0) = false := by simp
          rw [e1, e2, e3]; exact h1
        · by_cases h0 : z = 0 ∧ 0 < i
          · obtain ⟨rfl, hi0⟩ := h0
            have HQ : Hid (dec (l.drop k) = .error 2) := by
              have h1 := HR.out
              have e3 : decide (i = 0) = false := by simp; omega
              rw [HD.out, e3, decF_form _ _ _ rfl] at h1; exact h1
            have e2 := he1.s2
            go_wp2
            refine ⟨rfl, HO, k + i + 1, hc1, by omega, ?_⟩
            rw [HQ.out]; rfl
          · have HQ : Hid (dec (l.drop k) = .ok (x + 128 ^ i * (z.toNat % 128), i + 1)) := by
              have h1 := HR.out
              have e2 : z.toNat % 128 = z.toNat := by omega
              rw [HD.out, decF_last _ _ _ _ (by omega) (by simp; omega)] at h1
              rw [e2]; exact h1
            have hdec : (z = 0 ∧ i = 0) ∨ ¬ z = 0 := by omega
            clear h0
            rcases hdec with ⟨rfl, rfl⟩ | hz0
            · go_wp2
              go_ret
              refine ⟨HO, k + 0 + 1, hc1, by omega, ?_⟩
              rw [HQ.out]
              exact ⟨ret_int (by rw [← or_step x 0 0 HX.out (by omega) hz]; rfl), by omega⟩
            · have hb0 : (z == 0) = false := beq_eq_false_iff_ne.2 hz0
              go_wp2
              go_ret
              refine ⟨HO, k + i + 1, hc1, by omega, ?_⟩
              rw [HQ.out]
              exact ⟨ret_int (or_step x i z HX.out h9 hz), by omega⟩
    · obtain rfl : i = 9 := by omega
      go_wp2_with fail
      refine (tenth_any b o n cap _ l (k + 9) a _ hcur hs' hki he' h5 hab).mono ?_
      rintro e w1 ⟨ho1, k', hc1, hk', hout⟩
      have h1 := HR.out
      have e1 : 9 - 9 = 0 := rfl
      have e3 : decide (9 = 0) = false := rfl
      rw [e1, e3] at h1
      have HO : Hid (Only b (o + 1) w w1) := ho.trans ho1
      cases hd : decF 0 false (l.drop (k + 9)) with
      | error j =>
        rw [hd] at hout h1
        have HQ : Hid (dec (l.drop k) = .error j) := h1
        obtain rfl : e = _ := hout
        clear h1 hd HR
        go_wp2
        refine ⟨rfl, HO, k', hc1, hk', ?_⟩
        rw [HQ.out]; rfl
      | ok p =>
        obtain ⟨y, m⟩ := p
        obtain rfl : y = 1 := decF_one hd
        rw [hd] at hout h1
        obtain ⟨rfl, HK⟩ := hout
        have HK : Hid (k' = k + 9 + m) := HK
        have HQ : Hid (dec (l.drop k) = .ok (x + 128 ^ 9 * 1, 9 + m)) := h1
        clear h1 hd HR
        go_wp2
        go_ret
        refine ⟨HO, k', hc1, hk', ?_⟩
        rw [HQ.out]
        exact ⟨ret_int (or_tenth x HX.out), by have := HK.out; omega⟩

set_option maxHeartbeats 400000 in
set_option maxRecDepth 100000 in
theorem unfold_any (u : Nat) (w : World) (hu : u < 18446744073709551616) :
    Calls Tryd.prog 57 #[.int .u64 (u : Int)] w fun e w' => e = .returned (.int .i64 (unzig u)) ∧ w' = w := by
  go_enter Tryd.func57, Tryd.ntmps57
  go_wp2
  go_ret
  exact ⟨ret_int (unzig_bits u hu), rfl⟩

/-- What a reading of a signed number comes to. -/
def OutI (a : Nat → Addr) (r : Except Nat (Nat × Nat)) (e : Ending) (k k' : Nat) : Prop :=
  match r with
  | .ok (x, m) => e = .returned (.int .i64 (unzig x)) ∧ k' = k + m
  | .error i => e = .panicked [{ v := errV (a i), recovered := false }]

set_option maxHeartbeats 400000 in
set_option maxRecDepth 100000 in
theorem signed_any (b o n cap : Nat) (sa : Option Addr) (l : List Int) (k : Nat) (a : Nat → Addr) (w : World) (hc : Cur w b o sa n cap k) (hs : Seg w sa n l) (hsep : ∀ x, sa = some x → 0 < n → x.block ≠ b) (hy : Byt l) (hk : k ≤ n) (he : Errs w a) (h5 : 6 ≤ b) (hab : ∀ i, i < 5 → (a i).block ≠ b) :
    Calls Tryd.prog 51 #[.pointer (some ⟨b, o, none⟩)] w fun e w' => Only b (o + 1) w w' ∧ ∃ k', Cur w' b o sa n cap k' ∧ k' ≤ n ∧ OutI a (dec (l.drop k)) e k k' := by
  go_enter Tryd.func51, Tryd.ntmps51
  go_wp2_with fail
  refine (number_any b o n cap sa l k a _ hc hs hsep hy hk he h5 hab).mono ?_
  rintro e w1 ⟨ho, k', hc1, hk', hout⟩
  cases hd : dec (l.drop k) with
  | error i =>
    rw [hd] at hout
    obtain rfl : e = _ := hout
    have HD : Hid (dec (l.drop k) = .error i) := hd
    clear hd
    go_wp2
    refine ⟨rfl, ho, k', hc1, hk', ?_⟩
    rw [HD.out]; rfl
  | ok p =>
    obtain ⟨x, m⟩ := p
    have hx := dec_lt (fun z hz => hy z (List.mem_of_mem_drop hz)) hd
    rw [hd] at hout
    obtain ⟨rfl, HK⟩ := hout
    have HK : Hid (k' = k + m) := HK
    have HD : Hid (dec (l.drop k) = .ok (x, m)) := hd
    clear hd
    go_wp2_with fail
    refine (unfold_any x _ hx).mono ?_
    rintro e w2 ⟨rfl, rfl⟩
    go_wp2
    go_ret
    refine ⟨ho, k', hc1, hk', ?_⟩
    rw [HD.out]; exact ⟨rfl, HK.out⟩

end Go.Proofs.YtpjdgbhjjknopaaDoor
