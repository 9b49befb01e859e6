/- Texts of the proof, joined. -/
import Derived.Test.YtpjdgbhjjknopaaDoorJ02
import Derived.Test.YtpjdgbhjjknopaaDoorJ03
import Derived.Deep.QuietTactic
import Derived.BigQuiet
/- The contracts of the document's own GetUint and GetInt. -/
namespace Go.Proofs.YtpjdgbhjjknopaaDoor
open Go.RowKit Go.Wire1

/-- What the document's GetUint answers. -/
def RefU (r : Except Nat (Nat × Nat)) (e : Ending) : Prop :=
  match r with
  | .ok (x, m) => e = .returned (.tuple #[.int .u64 (x : Int), .int .i64 (m : Int), .int .i64 0])
  | .error i => e = .returned (.tuple #[.int .u64 0, .int .i64 0, .int .i64 (11 + (i : Int))])

theorem horner_u64 {U V : Nat} {y : Int} (hy : 0 ≤ y ∧ y < 256) (hU : U < 18446744073709551616) (h : U = y.toNat % 128 + 128 * V) :
    IntKind.u64.wrap (IntKind.u64.wrap ((V : Int) * 128) + y % 128) = (U : Int) := by
  simp only [IntKind.wrap_u64]; omega

set_option maxHeartbeats 2000000 in
set_option maxRecDepth 100000 in
theorem refUint_any (n cap : Nat) (sa : Option Addr) (l : List Int) (w : World) (hs : Seg w sa n l) (hy : Byt l) :
    Calls Tryd.prog 40 #[.slice sa n cap] w fun e w' => RefU (dec l) e ∧ w' = w := by
  have hl : Hid (l.length = n) := hs.1
  have hn := hs.2.1
  unfold maxLen at hn
  go_enter Tryd.func40, Tryd.ntmps40
  go_wp2
  go_loop [5] (fun c => ∃ k : Nat, c = .int .i64 (k : Int) ∧ k ≤ 9 ∧ k ≤ n ∧ Hid (lead 9 l = k + lead (9 - k) (l.drop k))) (fun c => 9 - (intOf c).toNat)
  case atStart => exact ⟨0, rfl, by omega, Nat.zero_le _, by simp [Hid]⟩
  case round =>
    obtain ⟨k, rfl, hk9, hkn, HK⟩ := hrel
    by_cases hkn' : k = n
    · subst hkn'
      have HQ : Hid (dec l = .error 0) := by
        have h := HK.out
        have e : l.drop k = [] := by rw [List.drop_eq_nil_iff]; have := hl.out; omega
        rw [e, lead_nil] at h
        exact decF_short 9 true l (by have := hl.out; omega)
      by_cases h9 : k < 9
      all_goals
        go_wp2
        go_ret3
        exact ⟨by rw [HQ.out]; rfl, rfl⟩
    · have hlt : k < n := by omega
      obtain ⟨b, off, rfl, hc⟩ := hs.2.2 (by omega)
      have hck := hc k hlt
      have hz := byt_at hy k
      have HD : Hid (l.drop k = l.getD k 0 :: l.drop (k + 1)) := drop_cons (by have := hl.out; omega)
      by_cases hmore : k < 9 ∧ 128 ≤ l.getD k 0
      · obtain ⟨h9, hbig⟩ := hmore
        obtain ⟨f, hf⟩ : ∃ f, 9 - k = f + 1 := ⟨8 - k, by omega⟩
        have HK' : Hid (lead 9 l = (k + 1) + lead (9 - (k + 1)) (l.drop (k + 1))) := by
          have := HK.out
          rw [HD.out, hf, lead_yes _ _ _ hbig] at this
          have e : 9 - (k + 1) = f := by omega
          show _ = _
          rw [e]; omega
        clear hc hf
        generalize l.getD k 0 = z at *
        go_wp2
        go_round
        case rel => exact ⟨k + 1, by go_num, by omega, by omega, HK'⟩
        case measure => simp [intOf]; omega
      · have HL : Hid (lead 9 l = k) := by
          have h := HK.out
          show _ = _
          by_cases h9 : k < 9
          · rw [HD.out, lead_no _ _ _ (fun h => hmore ⟨h9, h⟩)] at h; omega
          · obtain rfl : k = 9 := by omega
            simpa [lead] using h
        have HV : Hid ((k = 9 ∧ 1 < l.getD k 0 ∧ dec l = .error 1) ∨ (0 < k ∧ l.getD k 0 = 0 ∧ dec l = .error 2) ∨ ((k = 9 ∧ l.getD k 0 = 1 ∨ k < 9 ∧ 0 < l.getD k 0 ∧ l.getD k 0 < 128 ∨ k = 0 ∧ l.getD k 0 = 0) ∧ dec l = .ok (valAt l 0 (k + 1), k + 1))) := ref_ways hy (by have := hl.out; omega) hk9 HL.out
        clear hmore HK HD
        rcases HV.out with ⟨h9, h1, HQ0⟩ | ⟨h0, hz0, HQ0⟩ | ⟨hw, HQ0⟩
        · have HQ : Hid (dec l = .error 1) := HQ0
          clear HQ0
          subst h9
          clear hc
          generalize l.getD 9 0 = z at *
          go_wp2
          go_ret3
          exact ⟨by rw [HQ.out]; rfl, rfl⟩
        · have HQ : Hid (dec l = .error 2) := HQ0
          clear HQ0
          rw [hz0] at hck
          clear hc hz hz0 HV
          have hc9 : (((k : Int) == 9) = true ∧ ¬ k < 9) ∨ (((k : Int) == 9) = false ∧ k < 9) := by
            by_cases e : k = 9
            · left; subst e; exact ⟨rfl, by omega⟩
            · right; exact ⟨beq_eq_false_iff_ne.2 (by omega), by omega⟩
          rcases hc9 with ⟨hc9, h9'⟩ | ⟨hc9, h9'⟩
          all_goals
            go_wp2
            go_ret3
            exact ⟨by rw [HQ.out]; rfl, rfl⟩
        · have HQ : Hid (dec l = .ok (valAt l 0 (k + 1), k + 1)) := HQ0
          clear HQ0
          have hV64 : ∀ i, i ≤ k → valAt l i (k + 1 - i) < 18446744073709551616 := fun i hi => valAt_64 hk9 (by have := hl.out; omega) (fun e => by subst e; omega) hi
          have HVS : Hid (∀ i, i ≤ k → valAt l i (k + 1 - i) = (l.getD i 0).toNat % 128 + 128 * valAt l (i + 1) (k + 1 - (i + 1))) := fun i hi => by
            have := valAt_step (l := l) (i := i) (m := k - i) (by have := hl.out; omega)
            rw [show k + 1 - i = k - i + 1 by omega, show k + 1 - (i + 1) = k - i by omega]; exact this
          have HV64 := hide hV64
          have HC := hide hc
          clear hc HV hV64
          generalize l.getD k 0 = z at *
          have hw' : (k < 9 ∧ ((k : Int) == 9) = false ∧ z < 128) ∨ (¬ k < 9 ∧ ((k : Int) == 9) = true ∧ z = 1) := by
            rcases hw with ⟨h9, h1⟩ | ⟨h9, h1, h2⟩ | ⟨h9, h1⟩
            · right; subst h9; exact ⟨by omega, rfl, h1⟩
            · left; exact ⟨h9, beq_eq_false_iff_ne.2 (by omega), h2⟩
            · left; exact ⟨by omega, beq_eq_false_iff_ne.2 (by omega), by omega⟩
          have hw'' : (0 < k ∧ (z == 0) = false) ∨ ¬ 0 < k := by
            by_cases e : 0 < k
            · left; exact ⟨e, beq_eq_false_iff_ne.2 (by omega)⟩
            · right; exact e
          clear hw
          rcases hw' with ⟨g1, g2, g3⟩ | ⟨g1, g2, g3⟩ <;> rcases hw'' with ⟨g4, g5⟩ | g4
          all_goals first
            | (exfalso; omega)
            | (go_wp2
               go_loop [6, 7] (fun s c => ∃ j : Nat, j ≤ k + 1 ∧ c = .int .i64 ((j : Int) - 1) ∧ s = .int .u64 (valAt l j (k + 1 - j) : Nat)) (fun _ c => (intOf c + 1).toNat)
               case atStart => exact ⟨k + 1, Nat.le_refl _, by go_num, by rw [Nat.sub_self, valAt_zero]; rfl⟩
               case round =>
                 obtain ⟨j, hj, rfl, rfl⟩ := hrel
                 by_cases hj0 : j = 0
                 · subst hj0
                   go_wp2
                   go_ret3
                   exact ⟨by rw [HQ.out]; rfl, rfl⟩
                 · obtain ⟨i, rfl⟩ : ∃ i, j = i + 1 := ⟨j - 1, by omega⟩
                   have hci := HC.out i (by omega)
                   have HS := hide (HVS.out i (by omega))
                   have hb1 := HV64.out i (by omega)
                   have hzi := byt_at hy i
                   generalize valAt l (i + 1) (k + 1 - (i + 1)) = V at *
                   generalize hU : valAt l i (k + 1 - i) = U at *
                   have HU := hide hU
                   clear hU
                   generalize l.getD i 0 = y at *
                   go_wp2
                   refine ⟨⟨i, by omega, rfl, ?_⟩, by simp [intOf] <;> omega⟩
                   rw [unhide HU, horner_u64 hzi hb1 (unhide HS)]
              )

/-- What the document's GetInt answers. -/
def RefI (r : Except Nat (Nat × Nat)) (e : Ending) : Prop :=
  match r with
  | .ok (x, m) => e = .returned (.tuple #[.int .i64 (unzig x), .int .i64 (m : Int), .int .i64 0])
  | .error i => e = .returned (.tuple #[.int .i64 0, .int .i64 0, .int .i64 (11 + (i : Int))])

set_option maxHeartbeats 1000000 in
set_option maxRecDepth 100000 in
theorem refInt_any (n cap : Nat) (sa : Option Addr) (l : List Int) (w : World) (hs : Seg w sa n l) (hy : Byt l) :
    Calls Tryd.prog 30 #[.slice sa n cap] w fun e w' => RefI (dec l) e ∧ w' = w := by
  cases hd : dec l with
  | error j =>
    have HD : Hid (dec l = .error j) := hd
    have hj : ((11 + (j : Int)) != 0) = true := by rw [bne_iff_ne]; omega
    clear hd
    go_enter Tryd.func30, Tryd.ntmps30
    go_wp2_with fail
    refine (refUint_any n cap sa l _ hs hy).mono ?_
    rintro e w1 ⟨hg, rfl⟩
    rw [HD.out] at hg
    obtain rfl : e = _ := hg
    go_wp2
    go_ret3
    exact ⟨rfl, rfl⟩
  | ok p =>
    obtain ⟨x, m⟩ := p
    have hx := dec_lt hy hd
    have HD : Hid (dec l = .ok (x, m)) := hd
    clear hd
    by_cases ho : x % 2 = 1
    · have HU : Hid (unzig x = -((x / 2 : Nat) : Int) - 1) := by show _ = _; unfold unzig; rw [if_neg (by omega)]
      have hb : (((x : Int) % 2) == 1) = true := beq_iff_eq.2 (by omega)
      clear ho
      go_enter Tryd.func30, Tryd.ntmps30
      go_wp2_with fail
      refine (refUint_any n cap sa l _ hs hy).mono ?_
      rintro e w1 ⟨hg, rfl⟩
      rw [HD.out] at hg
      obtain rfl : e = _ := hg
      go_wp2
      go_ret3
      refine ⟨?_, rfl⟩
      show _ = _
      rw [HU.out]
      rfl
    · have HU : Hid (unzig x = ((x / 2 : Nat) : Int)) := by show _ = _; unfold unzig; rw [if_pos (by omega)]
      have hb : (((x : Int) % 2) == 1) = false := beq_eq_false_iff_ne.2 (by omega)
      clear ho
      go_enter Tryd.func30, Tryd.ntmps30
      go_wp2_with fail
      refine (refUint_any n cap sa l _ hs hy).mono ?_
      rintro e w1 ⟨hg, rfl⟩
      rw [HD.out] at hg
      obtain rfl : e = _ := hg
      go_wp2
      go_ret3
      refine ⟨?_, rfl⟩
      show _ = _
      rw [HU.out]
      rfl
end Go.Proofs.YtpjdgbhjjknopaaDoor
