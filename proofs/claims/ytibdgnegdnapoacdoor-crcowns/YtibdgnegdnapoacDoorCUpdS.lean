/- The contracts of the document's own Update and Sum. -/
import Derived.Test.YtibdgnegdnapoacDoorCSteps
namespace Go.Proofs.YtibdgnegdnapoacDoor
open Go.RowKit Go.Wire1 Go.Crc2

theorem x_ones (a : R) : bits .xor .u32 (a.toNat : Int) 4294967295 = ((~~~ a).toNat : Int) := by
  have := x_xorN a 4294967295 (by decide)
  rw [show BitVec.ofNat 32 4294967295 = BitVec.allOnes 32 by decide, BitVec.xor_allOnes] at this
  exact this

set_option maxHeartbeats 400000 in
set_option maxRecDepth 100000 in
theorem rupdate_any (c : R) (a : Option Addr) (n cap : Nat) (l : List Int) (w : World) (hs : Seg w a n l) (hb : Byt l) :
    Calls Tryd.prog 22 #[nr c, .slice a n cap] w fun e w' => e = .returned (nr (upd c l)) ∧ w' = w := by
  have HS : Hid (Seg w a n l) := hs
  have HB : Hid (Byt l) := hb
  have hl : Hid (l.length = n) := hs.1
  have hn : n ≤ maxLen := hs.2.1
  unfold maxLen at hn
  clear hs hb
  have e0 := x_ones c
  have eU : Hid (upd c l = ~~~ (takes (~~~ c) l)) := rfl
  rw [eU.out]
  generalize ~~~ c = c1 at *
  clear eU
  obtain ⟨fin, hfin⟩ : ∃ fin, Hid (~~~ (takes c1 l) = fin) := ⟨_, rfl⟩
  rw [hfin.out]
  simp only [nr]
  go_enter Tryd.func22, Tryd.ntmps22
  go_wp2
  go_loop [5, 6] (fun v i => ∃ k : Nat, i = .int .i64 (k : Int) ∧ k ≤ n ∧ v = nr (takes c1 (l.take k))) (fun _ i => n - (intOf i).toNat)
  case atStart => exact ⟨0, rfl, Nat.zero_le _, rfl⟩
  case round =>
    obtain ⟨k, rfl, hk, rfl⟩ := hrel
    by_cases hlt : k < n
    · obtain ⟨ba, oa, rfl, hca⟩ := HS.out.2.2 (by omega)
      have ca : w.cell? ⟨ba, oa + k, none⟩ = some (.int .u8 (l.getD k 0)) := hca k hlt
      have hz := byt_at HB.out k
      have HT : Hid (takes c1 (l.take (k + 1)) = take (takes c1 (l.take k)) (l.getD k 0)) := take_step' c1 (by have := hl.out; omega)
      clear hca
      generalize l.getD k 0 = z at *
      generalize takes c1 (l.take k) = r at *
      obtain ⟨m, rfl⟩ := Int.eq_ofNat_of_zero_le hz.1
      have e1 := x_xorN r m (by omega)
      have HK : Hid (take r (m : Int) = steps 8 (r ^^^ BitVec.ofNat 32 m)) := rfl
      generalize r ^^^ BitVec.ofNat 32 m = r1 at *
      have b := r_lt r
      have b1 := r_lt r1
      simp only [nr]
      go_wp2_with fail
      refine (rsteps_any r1 8 _ (by decide)).mono ?_
      rintro e w' ⟨rfl, rfl⟩
      rw [← HK.out]
      go_wp2
      go_round
      case rel => exact ⟨k + 1, by go_num, by omega, by rw [HT.out]⟩
      case measure => simp [intOf]; omega
    · have HT : Hid (l.take k = l) := List.take_of_length_le (by have := hl.out; omega)
      rw [HT.out]
      have e1 := x_ones (takes c1 l)
      rw [hfin.out] at e1
      generalize takes c1 l = r at *
      simp only [nr]
      go_wp2
      go_ret
      exact ⟨rfl, rfl⟩

set_option maxHeartbeats 400000 in
set_option maxRecDepth 100000 in
theorem rsum_any (a : Option Addr) (n cap : Nat) (l : List Int) (w : World) (hs : Seg w a n l) (hb : Byt l) :
    Calls Tryd.prog 28 #[.slice a n cap] w fun e w' => e = .returned (nr (upd 0#32 l)) ∧ w' = w := by
  obtain ⟨fin, hfin⟩ : ∃ fin, Hid (upd 0#32 l = fin) := ⟨_, rfl⟩
  rw [hfin.out]
  go_enter Tryd.func28, Tryd.ntmps28
  go_wp2_with fail
  refine (rupdate_any 0#32 a n cap l _ hs hb).mono ?_
  rintro e w' ⟨rfl, rfl⟩
  rw [hfin.out]
  go_wp2
  go_ret
  exact ⟨rfl, rfl⟩
end Go.Proofs.YtibdgnegdnapoacDoor
