/- Texts of the proof, joined. -/
import Derived.Test.YtpjdgbhjjknopaaDoorJ03
import Derived.Deep.QuietTactic
import Derived.BigQuiet
/- The contracts of the cursor's methods left, next, tenth, number, unfold and signed: what they answer or give up with, and where they leave the place. -/
namespace Go.Proofs.YtpjdgbhjjknopaaDoor
open Go.RowKit Go.Wire1

/-- What the panics carry. -/
abbrev errV (a : Addr) : Value := .iface 103 (.pointer (some a))

/-- The five sentinels: where they lie, that they are five, that nothing of them is frozen. -/
structure Errs (w : World) (a : Nat → Addr) : Prop where
  s0 : w.cell? ⟨3, 0, none⟩ = some (errV (a 0))
  s1 : w.cell? ⟨4, 0, none⟩ = some (errV (a 1))
  s2 : w.cell? ⟨5, 0, none⟩ = some (errV (a 2))
  s3 : w.cell? ⟨1, 0, none⟩ = some (errV (a 3))
  s4 : w.cell? ⟨2, 0, none⟩ = some (errV (a 4))
  blk : ∀ i, i < 5 → ∃ c t, w.heap[(a i).block]? = some (.cells c t (0, 0))
  ne : ∀ i j, i < 5 → j < 5 → i ≠ j → a i ≠ a j
  room : 6 ≤ w.heap.size

theorem Errs.below {w w' : World} {a : Nat → Addr} {B : Nat} (h : Errs w a) (hb : Below B w w') (hB : w.heap.size ≤ B) : Errs w' a := by
  have key : ∀ g, (∃ v, w.cell? ⟨g, 0, none⟩ = some v) → w'.cell? ⟨g, 0, none⟩ = w.cell? ⟨g, 0, none⟩ := fun g ⟨v, hv⟩ => hb.cell (p := ⟨g, 0, none⟩) (by have := cell_lt hv; show g < B; omega)
  refine ⟨(key _ ⟨_, h.s0⟩).trans h.s0, (key _ ⟨_, h.s1⟩).trans h.s1, (key _ ⟨_, h.s2⟩).trans h.s2, (key _ ⟨_, h.s3⟩).trans h.s3, (key _ ⟨_, h.s4⟩).trans h.s4, fun i hi => ?_, h.ne, Nat.le_trans h.room hb.size⟩
  obtain ⟨c, t, e⟩ := h.blk i hi
  have := (Array.getElem?_eq_some_iff.1 e).1
  exact ⟨c, t, (hb.block _ (by omega)).trans e⟩

theorem Errs.only {w w' : World} {a : Nat → Addr} {b p : Nat} (h : Errs w a) (ho : Only b p w w') (h5 : 6 ≤ b) (hs : ∀ i, i < 5 → (a i).block ≠ b) : Errs w' a := by
  have key : ∀ g, g < 6 → w'.cell? ⟨g, 0, none⟩ = w.cell? ⟨g, 0, none⟩ := fun g hg => World.cell?_of_block (w := w) (ho.block g (by omega))
  exact ⟨(key _ (by decide)).trans h.s0, (key _ (by decide)).trans h.s1, (key _ (by decide)).trans h.s2, (key _ (by decide)).trans h.s3, (key _ (by decide)).trans h.s4, fun i hi => by
    obtain ⟨c, t, e⟩ := h.blk i hi; exact ⟨c, t, (ho.block _ (hs i hi)).trans e⟩, h.ne, by rw [ho.size]; exact h.room⟩

theorem Errs.lt {w : World} {a : Nat → Addr} (h : Errs w a) (i : Nat) (hi : i < 5) : (a i).block < w.heap.size := by
  obtain ⟨c, t, e⟩ := h.blk i hi
  exact (Array.getElem?_eq_some_iff.1 e).1
theorem Errs.five {w : World} {a : Nat → Addr} (h : Errs w a) : 6 ≤ w.heap.size := h.room
theorem Errs.drewN {w : World} {a : Nat → Addr} (h : Errs w a) (q : Nat) : Errs (w.drewN q) a := ⟨h.s0, h.s1, h.s2, h.s3, h.s4, h.blk, h.ne, h.room⟩

set_option maxHeartbeats 400000 in
set_option maxRecDepth 100000 in
theorem left_any (b o n cap : Nat) (sa : Option Addr) (k : Nat) (w : World) (hc : Cur w b o sa n cap k) (hk : k ≤ n) (hn : n ≤ maxLen) :
    Calls Tryd.prog 56 #[.pointer (some ⟨b, o, none⟩)] w fun e w' => e = .returned (.int .i64 ((n : Int) - (k : Int))) ∧ ∃ q, w' = w.drewN q := by
  obtain ⟨c0, c1, _⟩ := hc
  unfold maxLen at hn
  go_enter Tryd.func56, Tryd.ntmps56
  go_wp2
  go_quiet (fail)
  go_wp2
  go_ret
  exact ⟨rfl, _, rfl⟩

set_option maxHeartbeats 400000 in
set_option maxRecDepth 100000 in
theorem next_ok (b o n cap : Nat) (sa : Option Addr) (l : List Int) (k : Nat) (w : World) (hc : Cur w b o sa n cap k) (hs : Seg w sa n l) (hk : k < n) :
    Calls Tryd.prog 53 #[.pointer (some ⟨b, o, none⟩)] w fun e w' => e = .returned (.int .u8 (l.getD k 0)) ∧ Only b (o + 1) w w' ∧ Cur w' b o sa n cap (k + 1) := by
  have hc' := hc
  obtain ⟨c0, c1, f1⟩ := hc
  obtain ⟨hl, hn, hs⟩ := hs
  obtain ⟨sb, so, rfl, hcell⟩ := hs (by omega)
  have hcl := hcell k hk
  have HL : Hid (l.length = n) := hl
  have hn' := hn
  unfold maxLen at hn'
  clear hs hl hcell
  generalize l.getD k 0 = z at hcl ⊢
  have h0 : (((n : Int) - (k : Int)) == 0) = false := by simp; omega
  go_enter Tryd.func53, Tryd.ntmps53
  go_wp2_with fail
  refine (left_any b o n cap _ k _ hc' (by omega) hn).mono ?_
  rintro e w1 ⟨rfl, q, rfl⟩
  go_wp2_with fail
  go_quiet (fail)
  go_wp2
  go_ret
  refine ⟨rfl, ((Only.refl b (o + 1) w).drewN _).setCell _, hc'.step _⟩

set_option maxHeartbeats 400000 in
set_option maxRecDepth 100000 in
theorem next_end (b o n cap : Nat) (sa : Option Addr) (a : Nat → Addr) (w : World) (hc : Cur w b o sa n cap n) (hn : n ≤ maxLen) (he : Errs w a) :
    Calls Tryd.prog 53 #[.pointer (some ⟨b, o, none⟩)] w fun e w' => e = .panicked [{ v := errV (a 0), recovered := false }] ∧ Only b (o + 1) w w' ∧ Cur w' b o sa n cap n := by
  have e0 := he.s0
  have hn' := hn
  unfold maxLen at hn'
  have h0 : (((n : Int) - (n : Int)) == 0) = true := by simp
  go_enter Tryd.func53, Tryd.ntmps53
  go_wp2_with fail
  refine (left_any b o n cap _ n _ hc (by omega) hn).mono ?_
  rintro e w1 ⟨rfl, q, rfl⟩
  go_wp2
  exact ⟨rfl, rfl, (Only.refl b (o + 1) w).drewN _, hc.drewN _⟩

/-- What a reading comes to: the number, the place behind it; or a panic with the sentinel. -/
def Out (a : Nat → Addr) (r : Except Nat (Nat × Nat)) (e : Ending) (k k' : Nat) : Prop :=
  match r with
  | .ok (x, m) => e = .returned (.int .u64 (x : Int)) ∧ k' = k + m
  | .error i => e = .panicked [{ v := errV (a i), recovered := false }]

set_option maxHeartbeats 400000 in
set_option maxRecDepth 100000 in
theorem tenth_any (b o n cap : Nat) (sa : Option Addr) (l : List Int) (k : Nat) (a : Nat → Addr) (w : World) (hc : Cur w b o sa n cap k) (hs : Seg w sa n l) (hk : k ≤ n) (he : Errs w a) (h5 : 6 ≤ b) (hab : ∀ i, i < 5 → (a i).block ≠ b) :
    Calls Tryd.prog 59 #[.pointer (some ⟨b, o, none⟩)] w fun e w' => Only b (o + 1) w w' ∧ ∃ k', Cur w' b o sa n cap k' ∧ k' ≤ n ∧ Out a (decF 0 false (l.drop k)) e k k' := by
  have hn := hs.2.1
  by_cases hkn : k = n
  · subst hkn
    have hd : l.drop k = [] := by rw [List.drop_eq_nil_iff]; rw [hs.1]; exact Nat.le_refl _
    rw [hd]
    go_enter Tryd.func59, Tryd.ntmps59
    go_wp2_with fail
    refine (next_end b o k cap _ a _ hc hn he).mono ?_
    rintro e w1 ⟨rfl, ho, hc1⟩
    exact ⟨rfl, ho, k, hc1, Nat.le_refl _, rfl⟩
  · have hlt : k < n := by omega
    have HD : Hid (l.drop k = l.getD k 0 :: l.drop (k + 1)) := drop_cons (by rw [hs.1]; exact hlt)
    by_cases z0 : l.getD k 0 = 0
    · have HR : Hid (decF 0 false (l.drop k) = .error 2) := by rw [HD.out]; exact decF_tenth0 _ _ _ z0
      go_enter Tryd.func59, Tryd.ntmps59
      go_wp2_with fail
      refine (next_ok b o n cap _ l k _ hc hs hlt).mono ?_
      rintro e w1 ⟨rfl, ho, hc1⟩
      rw [z0]
      have e2 := (he.only ho h5 hab).s2
      go_wp2
      refine ⟨rfl, ho, k + 1, hc1, by omega, ?_⟩
      rw [HR.out]; rfl
    · by_cases z1 : l.getD k 0 = 1
      · have HR : Hid (decF 0 false (l.drop k) = .ok (1, 1)) := by rw [HD.out]; exact decF_tenth1 _ _ _ z1
        go_enter Tryd.func59, Tryd.ntmps59
        go_wp2_with fail
        refine (next_ok b o n cap _ l k _ hc hs hlt).mono ?_
        rintro e w1 ⟨rfl, ho, hc1⟩
        rw [z1]
        go_wp2
        go_ret
        refine ⟨ho, k + 1, hc1, by omega, ?_⟩
        rw [HR.out]; exact ⟨rfl, rfl⟩
      · have HR : Hid (decF 0 false (l.drop k) = .error 1) := by rw [HD.out]; exact decF_tenth2 _ _ _ z0 z1
        have b0 : (l.getD k 0 == 0) = false := beq_eq_false_iff_ne.2 z0
        have b1 : (l.getD k 0 == 1) = false := beq_eq_false_iff_ne.2 z1
        go_enter Tryd.func59, Tryd.ntmps59
        go_wp2_with fail
        refine (next_ok b o n cap _ l k _ hc hs hlt).mono ?_
        rintro e w1 ⟨rfl, ho, hc1⟩
        clear z0 z1
        generalize l.getD k 0 = z at *
        have e2 := (he.only ho h5 hab).s1
        go_wp2
        refine ⟨rfl, ho, k + 1, hc1, by omega, ?_⟩
        rw [HR.out]; rfl

end Go.Proofs.YtpjdgbhjjknopaaDoor
