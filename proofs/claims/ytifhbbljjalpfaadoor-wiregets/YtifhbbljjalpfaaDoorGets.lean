/- The contract of the statements' helper gets: GetUint and GetInt answer as the document's own do. -/
import Derived.Test.YtifhbbljjalpfaaDoorGetI
import Derived.Test.YtifhbbljjalpfaaDoorRef
import Derived.Test.YtifhbbljjalpfaaDoorJoin
namespace Go.Proofs.YtifhbbljjalpfaaDoor
open Go.RowKit Go.Wire1

set_option maxHeartbeats 1000000 in
set_option maxRecDepth 100000 in
theorem gets_any (n cap : Nat) (sa : Option Addr) (l : List Int) (a : Nat → Addr) (w : World) (hs : Seg w sa n l) (hy : Byt l) (he : Errs w a) :
    Calls Tryd.prog 13 #[.slice sa n cap] w fun e w' => e = .returned (.bool true) ∧ Below w.heap.size w w' := by
  cases hd : dec l with
  | error j =>
    have HD : Hid (dec l = .error j) := hd
    clear hd
    go_enter Tryd.func13, Tryd.ntmps13
    go_wp2_with fail
    refine (getUint_any n cap sa l a _ hs hy he).mono ?_
    rintro e w1 ⟨hb1, hg⟩
    rw [HD.out] at hg
    obtain rfl : e = _ := hg
    have s1 := hs.below hb1 (Nat.le_refl _)
    have e1 := he.below hb1 (Nat.le_refl _)
    go_wp2_with fail
    refine (refUint_any n cap sa l _ s1 hy).mono ?_
    rintro e w2 ⟨hg, rfl⟩
    rw [HD.out] at hg
    obtain rfl : e = _ := hg
    go_wp2_with (first | (go_at_call 10; refine (num_any _ _).mono ?_; rintro e w' ⟨rfl, rfl⟩))
    refine (getInt_any n cap sa l a _ s1 hy e1).mono ?_
    rintro e w3 ⟨hb3, hg⟩
    rw [HD.out] at hg
    obtain rfl : e = _ := hg
    have s3 := s1.below hb3 (Nat.le_refl _)
    have B3 : Hid (Below w.heap.size w w3) := hb1.trans (hb3.mono hb1.size)
    clear hb1 hb3
    go_wp2_with fail
    refine (refInt_any n cap sa l _ s3 hy).mono ?_
    rintro e w4 ⟨hg, rfl⟩
    rw [HD.out] at hg
    obtain rfl : e = _ := hg
    go_wp2_with (first | (go_at_call 10; refine (num_any _ _).mono ?_; rintro e w' ⟨rfl, rfl⟩))
    go_ret
    exact ⟨rfl, B3.out⟩
  | ok p =>
    obtain ⟨x, m⟩ := p
    have HD : Hid (dec l = .ok (x, m)) := hd
    clear hd
    go_enter Tryd.func13, Tryd.ntmps13
    go_wp2_with fail
    refine (getUint_any n cap sa l a _ hs hy he).mono ?_
    rintro e w1 ⟨hb1, hg⟩
    rw [HD.out] at hg
    obtain rfl : e = _ := hg
    have s1 := hs.below hb1 (Nat.le_refl _)
    have e1 := he.below hb1 (Nat.le_refl _)
    go_wp2_with fail
    refine (refUint_any n cap sa l _ s1 hy).mono ?_
    rintro e w2 ⟨hg, rfl⟩
    rw [HD.out] at hg
    obtain rfl : e = _ := hg
    go_wp2_with (first | (go_at_call 10; refine (num_any _ _).mono ?_; rintro e w' ⟨rfl, rfl⟩))
    refine (getInt_any n cap sa l a _ s1 hy e1).mono ?_
    rintro e w3 ⟨hb3, hg⟩
    rw [HD.out] at hg
    obtain rfl : e = _ := hg
    have s3 := s1.below hb3 (Nat.le_refl _)
    have B3 : Hid (Below w.heap.size w w3) := hb1.trans (hb3.mono hb1.size)
    clear hb1 hb3
    go_wp2_with fail
    refine (refInt_any n cap sa l _ s3 hy).mono ?_
    rintro e w4 ⟨hg, rfl⟩
    rw [HD.out] at hg
    obtain rfl : e = _ := hg
    go_wp2_with (first | (go_at_call 10; refine (num_any _ _).mono ?_; rintro e w' ⟨rfl, rfl⟩))
    go_ret
    exact ⟨rfl, B3.out⟩
end Go.Proofs.YtifhbbljjalpfaaDoor
