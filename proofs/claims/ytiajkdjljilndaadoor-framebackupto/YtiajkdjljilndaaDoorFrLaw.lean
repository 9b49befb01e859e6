/- What the laws of frames share: num, SameBytes, Bytes; frames that are opened. -/
import Derived.Test.YtiajkdjljilndaaDoorFrOpen
import Derived.Test.YtiajkdjljilndaaDoorFBytes
import Derived.Test.YtiajkdjljilndaaDoorSame
namespace Go.Proofs.YtiajkdjljilndaaDoor
open Go.RowKit Go.Wire1 Go.Crc2 Go.Frm

set_option maxHeartbeats 4000000 in
set_option maxRecDepth 100000 in
theorem num_any (x : Int) (w : World) : Calls Tryd.prog 10 #[.int .i64 x] w fun e w' => e = .returned (.int .i64 x) ∧ w = w' := by
  go_enter Tryd.func10, Tryd.ntmps10
  go_wp2
  go_ret
  exact ⟨rfl, rfl⟩
theorem num_q (x : Int) (w : World) : Calls Tryd.prog 10 #[.int .i64 x] w fun e w' => e = .returned (.int .i64 x) ∧ ∃ m, w' = w.drewN m := (num_any x w).mono fun _ _ ⟨h1, h2⟩ => ⟨h1, 0, h2.symm⟩
theorem same_bel (a b : Option Addr) (n m cap cap' : Nat) (xs ys : List Int) (w : World) (ha : Seg w a n xs) (hb : Seg w b m ys) :
    Calls Tryd.prog 14 #[.slice a n cap, .slice b m cap'] w fun e w' => e = .returned (.bool (sameB xs ys)) ∧ Below w.heap.size w w' := by
  refine (same_any a b n m cap cap' xs ys w ha hb).mono ?_
  rintro e w' ⟨rfl, q, rfl⟩
  exact ⟨rfl, below_drewN (Below.refl _ _) q⟩
theorem seg_other {w : World} {g o : Nat} {a : Option Addr} {n : Nat} {l : List Int} (v : Value) (h : Seg w a n l) (hne : ∀ x, a = some x → 0 < n → x.block ≠ g) : Seg (w.setCell ⟨g, o, none⟩ v) a n l :=
  ((Tch.refl g none w).setB v).seg h (fun x e hn => ⟨hne x e hn, by intro q; cases q⟩)
theorem opn_own (v : Nat) (p : List Int) (hp : p.length ≤ 1048576) : opn v (frm v p) = (p, (frm v p).length, 0) := by
  have h := look_frm v p [] hp
  have h2 := frm_pay v p []
  rw [List.append_nil] at h h2
  unfold opn
  rw [h]
  simp only [h2, frm_len]
theorem frm_front (v : Nat) (p : List Int) : ∃ r, frm v p = 77 :: 84 :: (v : Int) :: r := ⟨_, rfl⟩
theorem opn_other (v w : Nat) (p : List Int) (hw : w ≠ v) : opn w (frm v p) = ([], 0, 72) := by
  obtain ⟨r, hr⟩ := frm_front v p
  have hne : ¬ ((v : Int) = (w : Int)) := by omega
  unfold opn
  rw [hr]
  simp [Frm.look, hne]
theorem opn_first (v : Nat) (p : List Int) (x : Int) (hx : x ≠ 77) : opn v ((frm v p).set 0 x) = ([], 0, 71) := by
  obtain ⟨r, hr⟩ := frm_front v p
  unfold opn
  rw [hr]
  simp [Frm.look, hx]
theorem opn_second (v : Nat) (p : List Int) (x : Int) (hx : x ≠ 84) : opn v ((frm v p).set 1 x) = ([], 0, 71) := by
  obtain ⟨r, hr⟩ := frm_front v p
  unfold opn
  rw [hr]
  simp [Frm.look, hx]
theorem frm_at (v : Nat) (p : List Int) : (frm v p).getD 0 0 = 77 ∧ (frm v p).getD 1 0 = 84 := by
  obtain ⟨r, hr⟩ := frm_front v p
  rw [hr]; exact ⟨rfl, rfl⟩
theorem thaw_own {w : World} {B g n cap : Nat} {xs : List Value} (h : w.ownsRow B 5 1 (.slice (some ⟨g, 0, none⟩) n cap) n xs) (j : Nat) : w.frozen? ⟨g, j, none⟩ = false := by
  rcases h.2 with ⟨e, _⟩ | ⟨_, _, _, e, _, hh, _⟩
  · cases e
  · cases e; simp [World.frozen?, hh]
theorem own_nil {w : World} {B : Nat} {v : Value} {xs : List Value} (h : w.ownsRow B 5 1 v 0 xs) : ∃ a cap, v = .slice a 0 cap := own_shape h
end Go.Proofs.YtiajkdjljilndaaDoor
