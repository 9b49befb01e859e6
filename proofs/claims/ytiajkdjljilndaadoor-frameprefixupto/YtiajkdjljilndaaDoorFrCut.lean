/- Feed by what the bytes are; a frame that is cut; places in a list. -/
import Derived.Test.YtiajkdjljilndaaDoorFrLaw
namespace Go.Proofs.YtiajkdjljilndaaDoor
open Go.RowKit Go.Wire1 Go.Crc2 Go.Frm

theorem turn_at (k : Int) (ln : Nat) (h : 0 < ln) : ∃ (r : Int) (j : Nat), k.tmod (ln : Int) = r ∧ -(ln : Int) < r ∧ r < (ln : Int) ∧ (r + (ln : Int)).tmod (ln : Int) = (j : Int) ∧ j < ln := by
  have h1 : (k.tmod (ln : Int)).natAbs = k.natAbs % ln := by rw [Int.natAbs_tmod]; rfl
  have h2 : k.natAbs % ln < ln := Nat.mod_lt _ h
  have h3 : -(ln : Int) < k.tmod (ln : Int) ∧ k.tmod (ln : Int) < (ln : Int) := by omega
  have h4 : (k.tmod (ln : Int) + (ln : Int)).tmod (ln : Int) = (k.tmod (ln : Int) + (ln : Int)) % (ln : Int) := Int.tmod_eq_emod_of_nonneg (by omega)
  have h5 := Int.emod_nonneg (k.tmod (ln : Int) + (ln : Int)) (show (ln : Int) ≠ 0 by omega)
  have h6 := Int.emod_lt_of_pos (k.tmod (ln : Int) + (ln : Int)) (show (0 : Int) < (ln : Int) by omega)
  exact ⟨_, ((k.tmod (ln : Int) + (ln : Int)) % (ln : Int)).toNat, rfl, h3.1, h3.2, by rw [h4]; omega, by omega⟩
theorem feed_short (w : World) (b : Nat) (s : Sm) (pv : Value) (E0 : Nat) (v pl : Nat) (h : List Int) (sa : Option Addr) (n cap : Nat) (l : List Int) (a : Nat → Addr) (hS : Str w b s pv E0) (hL : Liv v pl h s) (hs : Seg w sa n l) (hnc : n ≤ cap) (hc63 : cap ≤ maxLen) (hy : Byt l) (hsep : ∀ x, sa = some x → 0 < n → x.block ≠ b ∧ some x.block ≠ pv.ownBlock) (en : Env w a E0) (hk : Frm.look v (h ++ l) = .short) :
    Calls Tryd.prog 21 #[.pointer (some ⟨b, 0, none⟩), .slice sa n cap] w fun r w' => r = .returned (.int .i64 (n : Int)) ∧ ∃ s1 pv1, Stp w w' b s1 pv pv1 E0 ∧ Liv v pl (h ++ l) s1 := by
  refine (feed_live w b s pv E0 v pl h sa n cap l a hS hL hs hnc hc63 hy hsep en).mono ?_
  rintro r w' ⟨k, s1, pv1, rfl, F, hp⟩
  rcases fed_look F hp with ⟨_, h2, h3⟩ | ⟨f, t, h1, _⟩ | ⟨e, h1, _⟩
  · exact ⟨by rw [h2, hs.1], s1, pv1, F.stp, h3⟩
  · rw [hk] at h1; cases h1
  · rw [hk] at h1; cases h1
theorem feed_whole (w : World) (b : Nat) (s : Sm) (pv : Value) (E0 : Nat) (v pl : Nat) (h : List Int) (sa : Option Addr) (n cap : Nat) (l : List Int) (a : Nat → Addr) (hS : Str w b s pv E0) (hL : Liv v pl h s) (hs : Seg w sa n l) (hnc : n ≤ cap) (hc63 : cap ≤ maxLen) (hy : Byt l) (hsep : ∀ x, sa = some x → 0 < n → x.block ≠ b ∧ some x.block ≠ pv.ownBlock) (en : Env w a E0) (p : List Int) (hp : p.length ≤ 1048576) (hk : h ++ l = frm v p) :
    Calls Tryd.prog 21 #[.pointer (some ⟨b, 0, none⟩), .slice sa n cap] w fun r w' => r = .returned (.int .i64 (n : Int)) ∧ ∃ s1 pv1, Stp w w' b s1 pv pv1 E0 ∧ Wai v pl (frm v p) s1 ∧ s1.pay = p := by
  refine (feed_live w b s pv E0 v pl h sa n cap l a hS hL hs hnc hc63 hy hsep en).mono ?_
  rintro r w' ⟨k, s1, pv1, rfl, F, hpp⟩
  have hl := look_frm v p [] hp
  have h2 := frm_pay v p []
  rw [List.append_nil] at hl h2
  have hlen := congrArg List.length hk
  rw [List.length_append, frm_len, hs.1] at hlen
  rcases fed_look F hpp with ⟨h1, _⟩ | ⟨f, t, h1, h3, h4, h5, _⟩ | ⟨e, h1, _⟩
  · rw [hk, hl] at h1; cases h1
  · rw [hk, hl] at h1
    simp only [Lk.whole.injEq] at h1
    obtain ⟨rfl, rfl⟩ := h1
    rw [hk] at h4 h5
    rw [List.take_of_length_le (by rw [frm_len]; omega)] at h4
    exact ⟨by congr 2; omega, s1, pv1, F.stp, h4, by rw [← h5, h2]⟩
  · rw [hk, hl] at h1; cases h1
theorem row_seg {w : World} {g : Nat} {l : List Int} (h : w.heap[g]? = some (.cells (l.map (Value.int .u8)).toArray 5 (0, 0))) (hl : l.length ≤ maxLen := by decide) : Seg w (some ⟨g, 0, none⟩) l.length l := by
  refine ⟨rfl, hl, fun _ => ⟨g, 0, rfl, fun j hj => ?_⟩⟩
  rw [Nat.zero_add]
  simp [World.cell?, h, List.getElem?_eq_getElem hj]
/-- A frame's proper beginning goes on. -/
theorem frm_cut (v : Nat) (p : List Int) (hv : v ≤ 2) (hy : Byt p) (hp : p.length ≤ 1048576) (k : Nat) (hk : k < (frm v p).length) : Frm.look v ((frm v p).take k) = .short := by
  apply Classical.byContradiction
  intro hc
  have hl := look_frm v p [] hp
  rw [List.append_nil] at hl
  have hm := look_mono ((frm v p).drop k) hc
  rw [List.take_append_drop, hl] at hm
  have hw := whole_frm (byt_take (byt_frm v p hv hy) k) hm.symm
  have := hw.2.2.1
  rw [List.length_take, frm_len] at this
  rw [frm_len] at hk
  omega
end Go.Proofs.YtiajkdjljilndaaDoor
