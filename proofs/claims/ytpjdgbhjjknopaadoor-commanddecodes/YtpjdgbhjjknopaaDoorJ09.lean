/- Texts of the proof, joined. -/
import Derived.Test.YtpjdgbhjjknopaaDoorJ05
import Derived.Test.YtpjdgbhjjknopaaDoorJ08
/- The contract of errnoOf at the five sentinels: each has its own number, 11 to 15. -/
namespace Go.Proofs.YtpjdgbhjjknopaaDoor
open Go.RowKit Go.Wire1 Go.Stop

theorem isError (v : Value) (xT : TypeId) (w : World) : (Instr.typeAssert (.iface 103 v) xT 79 true).run Tryd.prog w = .ok (.tuple #[.iface 103 v, .bool true]) w := run_typeAssert_hasB Tryd.underlying79 (by kernel_rfl) v xT w

set_option maxHeartbeats 1000000 in
set_option maxRecDepth 100000 in
theorem errno_any (i : Nat) (hi : i < 5) (a : Nat → Addr) (w : World) (he : Errs w a) :
    Calls Tryd.prog 52 #[errV (a i)] w fun e w' => e = .returned (.int .i64 (11 + (i : Int))) ∧ w' = w := by
  have hE := isError
  obtain ⟨s0, s1, s2, s3, s4, hb, hne⟩ := he
  have no : ∀ j, j < 5 → j ≠ i → Calls Tryd.prog 58 #[errV (a i), errV (a j)] w fun e w' => e = .returned (.bool false) ∧ w' = w := fun j hj hji => by
    obtain ⟨c, t, h1⟩ := hb i hi
    obtain ⟨c', t', h2⟩ := hb j hj
    exact is_other (a i) (a j) c c' t t' w (hne i j hi hj (fun e => hji e.symm)) h1 h2
  have NO : Hid (∀ j, j < 5 → j ≠ i → Calls Tryd.prog 58 #[errV (a i), errV (a j)] w fun e w' => e = .returned (.bool false) ∧ w' = w) := no
  clear no hb hne
  rcases (by omega : i = 0 ∨ i = 1 ∨ i = 2 ∨ i = 3 ∨ i = 4) with rfl | rfl | rfl | rfl | rfl
  · go_enter Tryd.func52, Tryd.ntmps52
    go_wp2_with fail
    refine (is_same (a 0) _).mono ?_
    rintro e w1 ⟨rfl, rfl⟩
    go_wp2
    go_ret
    exact ⟨rfl, rfl⟩
  · go_enter Tryd.func52, Tryd.ntmps52
    go_wp2_with fail
    refine (NO.out 0 (by decide) (by decide)).mono ?_
    rintro e w1 ⟨rfl, rfl⟩
    go_wp2_with fail
    refine (is_same (a 1) _).mono ?_
    rintro e w1 ⟨rfl, rfl⟩
    go_wp2
    go_ret
    exact ⟨rfl, rfl⟩
  · go_enter Tryd.func52, Tryd.ntmps52
    go_wp2_with fail
    refine (NO.out 0 (by decide) (by decide)).mono ?_
    rintro e w1 ⟨rfl, rfl⟩
    go_wp2_with fail
    refine (NO.out 1 (by decide) (by decide)).mono ?_
    rintro e w1 ⟨rfl, rfl⟩
    go_wp2_with fail
    refine (is_same (a 2) _).mono ?_
    rintro e w1 ⟨rfl, rfl⟩
    go_wp2
    go_ret
    exact ⟨rfl, rfl⟩
  · go_enter Tryd.func52, Tryd.ntmps52
    go_wp2_with fail
    refine (NO.out 0 (by decide) (by decide)).mono ?_
    rintro e w1 ⟨rfl, rfl⟩
    go_wp2_with fail
    refine (NO.out 1 (by decide) (by decide)).mono ?_
    rintro e w1 ⟨rfl, rfl⟩
    go_wp2_with fail
    refine (NO.out 2 (by decide) (by decide)).mono ?_
    rintro e w1 ⟨rfl, rfl⟩
    go_wp2_with fail
    refine (is_same (a 3) _).mono ?_
    rintro e w1 ⟨rfl, rfl⟩
    go_wp2
    go_ret
    exact ⟨rfl, rfl⟩
  · go_enter Tryd.func52, Tryd.ntmps52
    go_wp2_with fail
    refine (NO.out 0 (by decide) (by decide)).mono ?_
    rintro e w1 ⟨rfl, rfl⟩
    go_wp2_with fail
    refine (NO.out 1 (by decide) (by decide)).mono ?_
    rintro e w1 ⟨rfl, rfl⟩
    go_wp2_with fail
    refine (NO.out 2 (by decide) (by decide)).mono ?_
    rintro e w1 ⟨rfl, rfl⟩
    go_wp2_with fail
    refine (NO.out 3 (by decide) (by decide)).mono ?_
    rintro e w1 ⟨rfl, rfl⟩
    go_wp2_with fail
    refine (is_same (a 4) _).mono ?_
    rintro e w1 ⟨rfl, rfl⟩
    go_wp2
    go_ret
    exact ⟨rfl, rfl⟩
end Go.Proofs.YtpjdgbhjjknopaaDoor
