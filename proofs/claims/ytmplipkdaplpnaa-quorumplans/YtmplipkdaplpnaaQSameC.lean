/- The contract of mootref.SameCmd. -/
import Derived.Test.YtmplipkdaplpnaaHMath
import Derived.Test.YtmplipkdaplpnaaQVote
namespace Go.Proofs.Ytmplipkdaplpnaa
open Go.RowKit Go.Wire1

def sameC (c d : Cm) : Bool := (c.kind == d.kind) && (c.client == d.client) && (c.req == d.req) && (c.n == d.n) && teq c.key d.key && teq c.key2 d.key2 && teq c.val d.val && teq c.old d.old

set_option maxHeartbeats 1000000 in
set_option maxRecDepth 100000 in
theorem sameCmd_any (c d : Cm) (w : World) :
    Calls Try.prog 37 #[.agg #[.int .i64 c.kind, .int .i64 c.client, .int .i64 c.req, .string c.key, .string c.key2, .string c.val, .string c.old, .int .i64 c.n], .agg #[.int .i64 d.kind, .int .i64 d.client, .int .i64 d.req, .string d.key, .string d.key2, .string d.val, .string d.old, .int .i64 d.n]] w fun e w' => e = .returned (.bool (sameC c d)) ∧ Below w.heap.size w w' := by
  obtain ⟨r, hr⟩ : ∃ r, Hid (sameC c d = r) := ⟨_, rfl⟩
  rw [hr.out]
  have BB : ∀ o p, Hid (Below w.heap.size w ((w.alloc o).alloc p)) := fun o p => ((Below.refl _ w).alloc (Nat.le_refl _) _).alloc (by simp) _
  by_cases h0 : c.kind = d.kind
  rotate_left
  · have e : Hid (r = false) := by rw [← hr.out]; simp [Hid, sameC, teq, h0]
    rw [e.out]
    clear hr e
    go_enter Try.func37, Try.ntmps37
    go_wp2
    go_ret
    exact ⟨rfl, (BB _ _).out⟩
  by_cases h1 : c.client = d.client
  rotate_left
  · have e : Hid (r = false) := by rw [← hr.out]; simp [Hid, sameC, teq, h0, h1]
    rw [e.out]
    clear hr e
    go_enter Try.func37, Try.ntmps37
    go_wp2
    go_ret
    exact ⟨rfl, (BB _ _).out⟩
  by_cases h2 : c.req = d.req
  rotate_left
  · have e : Hid (r = false) := by rw [← hr.out]; simp [Hid, sameC, teq, h0, h1, h2]
    rw [e.out]
    clear hr e
    go_enter Try.func37, Try.ntmps37
    go_wp2
    go_ret
    exact ⟨rfl, (BB _ _).out⟩
  by_cases h3 : c.n = d.n
  rotate_left
  · have e : Hid (r = false) := by rw [← hr.out]; simp [Hid, sameC, teq, h0, h1, h2, h3]
    rw [e.out]
    clear hr e
    go_enter Try.func37, Try.ntmps37
    go_wp2
    go_ret
    exact ⟨rfl, (BB _ _).out⟩
  cases h4 : (c.key.toList == d.key.toList) with
  | false =>
    have e : Hid (r = false) := by rw [← hr.out]; simp [Hid, sameC, teq, h0, h1, h2, h3, h4]
    rw [e.out]
    clear hr e
    go_enter Try.func37, Try.ntmps37
    go_wp2
    go_ret
    exact ⟨rfl, (BB _ _).out⟩
  | true =>
    cases h5 : (c.key2.toList == d.key2.toList) with
    | false =>
      have e : Hid (r = false) := by rw [← hr.out]; simp [Hid, sameC, teq, h0, h1, h2, h3, h4, h5]
      rw [e.out]
      clear hr e
      go_enter Try.func37, Try.ntmps37
      go_wp2
      go_ret
      exact ⟨rfl, (BB _ _).out⟩
    | true =>
      cases h6 : (c.val.toList == d.val.toList) with
      | false =>
        have e : Hid (r = false) := by rw [← hr.out]; simp [Hid, sameC, teq, h0, h1, h2, h3, h4, h5, h6]
        rw [e.out]
        clear hr e
        go_enter Try.func37, Try.ntmps37
        go_wp2
        go_ret
        exact ⟨rfl, (BB _ _).out⟩
      | true =>
        cases h7 : (c.old.toList == d.old.toList) with
        | false =>
          have e : Hid (r = false) := by rw [← hr.out]; simp [Hid, sameC, teq, h0, h1, h2, h3, h4, h5, h6, h7]
          rw [e.out]
          clear hr e
          go_enter Try.func37, Try.ntmps37
          go_wp2
          go_ret
          exact ⟨rfl, (BB _ _).out⟩
        | true =>
          have e : Hid (r = true) := by rw [← hr.out]; simp [Hid, sameC, teq, h0, h1, h2, h3, h4, h5, h6, h7]
          rw [e.out]
          clear hr e
          go_enter Try.func37, Try.ntmps37
          go_wp2
          go_ret
          exact ⟨rfl, (BB _ _).out⟩
end Go.Proofs.Ytmplipkdaplpnaa
