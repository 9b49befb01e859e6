/- Texts of the proof, joined. -/
import Derived.Test.YtnogdjpbnhnmaaaGreatDoorJ16
import Derived.Test.YtnogdjpbnhnmaaaGreatDoorJ05
import Derived.Test.YtnogdjpbnhnmaaaGreatDoorJ12
import Derived.Deep.QuietTactic
import Derived.BigQuiet
/- The contract of Pack. -/
namespace Go.Proofs.YtnogdjpbnhnmaaaGreatDoor
open Go.RowKit Go.Wire1

theorem packPlain_lit {cs : Array Value} {l : List Int} (hcs : (arrL l).toArray = cs) (n : Nat) (w : World) (hn : n ≤ 7) (ho : okL l = true) :
    Calls Tryz.prog 132 #[.agg cs, .int .i64 (n : Int)] w fun e w' => ∃ v, e = .returned v ∧ w'.ownsRow w.heap.size 5 1 v (plainK l n).length ((plainK l n).map (Value.int .u8)) ∧ Below w.heap.size w w' := by
  subst hcs; exact packPlain_any l n w hn ho
theorem packTight_lit {cs : Array Value} {l : List Int} (hcs : (arrL l).toArray = cs) (n : Nat) (w : World) (hn : n ≤ 7) (ho : okL l = true) :
    Calls Tryz.prog 133 #[.agg cs, .int .i64 (n : Int)] w fun e w' => ∃ v, e = .returned v ∧ w'.ownsRow w.heap.size 5 1 v (enc (maskK l n) ++ diffK l n).length ((enc (maskK l n) ++ diffK l n).map (Value.int .u8)) ∧ Below w.heap.size w w' := by
  subst hcs; exact packTight_any l n w hn ho

set_option maxHeartbeats 1000000 in
set_option maxRecDepth 100000 in
theorem pack_any (v : Int) (a : Option Addr) (n cap : Nat) (l : List Int) (w : World) (h : SegI w a n l) :
    Calls Tryz.prog 95 #[.int .i64 v, .slice a n cap] w fun e w' => ∃ u, e = .returned (.tuple #[u, .int .i64 (packE v l : Int)]) ∧ w'.ownsRow w.heap.size 5 1 u (packR v l).length ((packR v l).map (Value.int .u8)) ∧ Below w.heap.size w w' := by
  have HS : Hid (SegI w a n l) := h
  have HL : Hid (l.length = n) := h.1
  clear h
  go_enter Tryz.func95, Tryz.ntmps95
  go_wp2_with fail
  refine (visVersion_any v _).mono ?_
  rintro e w' ⟨rfl, rfl⟩
  cases hv : okV v with
  | false =>
    have HQ : Hid (packE v l = 2 ∧ packR v l = []) := by
      have h1 : packE v l = 2 := by unfold packE; rw [if_neg (of_decide_eq_false hv)]
      exact ⟨h1, by unfold packR; rw [if_neg (by omega)]⟩
    clear hv
    go_wp2
    go_ret2
    exact ⟨_, by rw [HQ.out.1]; rfl, by rw [HQ.out.2]; exact World.ownsRow_nil _ _ _ _, Below.refl _ _⟩
  | true =>
    have HV : Hid (packE v l = fault l) := by show _ = _; unfold packE; rw [if_pos (of_decide_eq_true hv)]
    have hv2 := of_decide_eq_true hv
    go_wp2_with fail
    refine (vfaultOf_any a n cap l _ HS.out).mono ?_
    rintro e w' ⟨rfl, rfl⟩
    by_cases hf : fault l = 0
    · have ho : okL l = true ∧ 1 ≤ n ∧ n ≤ 7 := by
        have h2 := hf
        unfold fault at h2
        rw [HL.out] at h2
        split at h2
        · rename_i h3
          have := of_decide_eq_true h3
          split at h2
          · exact ⟨by assumption, this.1, this.2⟩
          · omega
        · omega
      have HO : Hid (okL l = true) := ho.1
      have hn := ho.2
      have HR : Hid (packE v l = 0 ∧ packR v l = packL v l) := by
        have h1 : packE v l = 0 := by rw [HV.out, hf]
        exact ⟨h1, by unfold packR; rw [if_pos h1]⟩
      obtain ⟨x0, x1, x2, x3, x4, x5, x6, HX⟩ : ∃ x0 x1 x2 x3 x4 x5 x6 : Int, Hid (arrL l = [.int .i64 x0, .int .i64 x1, .int .i64 x2, .int .i64 x3, .int .i64 x4, .int .i64 x5, .int .i64 x6]) := ⟨_, _, _, _, _, _, _, rfl⟩
      rw [hf]
      clear hf ho HV
      go_wp2_with fail
      refine (entriesOf_any a n cap l _ HS.out (by omega) (by omega)).mono ?_
      rintro e w1 ⟨rfl, hb1⟩
      have B1 : Hid (Below w.heap.size w w1) := hb1
      rw [HX.out]
      clear hb1
      have hbA : Hid (Below w.heap.size w (w1.alloc (.cells #[.int .i64 x0, .int .i64 x1, .int .i64 x2, .int .i64 x3, .int .i64 x4, .int .i64 x5, .int .i64 x6] 156))) := B1.out.more (Nat.le_refl _) _
      have hsz : Hid (w.heap.size ≤ (w1.alloc (.cells #[.int .i64 x0, .int .i64 x1, .int .i64 x2, .int .i64 x3, .int .i64 x4, .int .i64 x5, .int .i64 x6] 156)).heap.size) := hbA.out.size
      by_cases h1 : v = 1
      · subst h1
        have HP : Hid (plainK l n = packR 1 l) := by show _ = _; rw [HR.out.2]; unfold packL; rw [if_pos rfl, HL.out]
        clear hv hv2
        go_wp2_with fail
        refine (packPlain_lit (l := l) (by rw [HX.out]) n _ (by omega) HO.out).mono ?_
        rintro e w2 ⟨u, rfl, hown, hb2⟩
        have O1 := hide (own_base (B' := w.heap.size) hown hsz.out)
        have BB : Hid (Below w.heap.size w w2) := hbA.out.on hb2 (Nat.le_refl _)
        clear hown hb2 hsz hbA
        go_wp2
        go_ret2
        exact ⟨_, by rw [HR.out.1]; rfl, by rw [← HP.out]; exact O1.out, BB.out⟩
      · have HP : Hid (enc (maskK l n) ++ diffK l n = packR v l) := by show _ = _; rw [HR.out.2]; unfold packL Go.Wire1.tight; rw [if_neg h1, HL.out]
        have d1 : (v == 1) = false := beq_eq_false_iff_ne.2 h1
        clear hv hv2
        go_wp2_with fail
        refine (packTight_lit (l := l) (by rw [HX.out]) n _ (by omega) HO.out).mono ?_
        rintro e w2 ⟨u, rfl, hown, hb2⟩
        have O1 := hide (own_base (B' := w.heap.size) hown hsz.out)
        have BB : Hid (Below w.heap.size w w2) := hbA.out.on hb2 (Nat.le_refl _)
        clear hown hb2 hsz hbA
        go_wp2
        go_ret2
        exact ⟨_, by rw [HR.out.1]; rfl, by rw [← HP.out]; exact O1.out, BB.out⟩
    · have HQ : Hid (packE v l = fault l ∧ packR v l = []) := ⟨HV.out, by unfold packR; rw [if_neg (by rw [HV.out]; exact hf)]⟩
      have hb : ((fault l : Int) != 0) = true := by rw [bne_iff_ne]; omega
      clear hf hv hv2
      generalize fault l = f at *
      go_wp2
      go_ret2
      exact ⟨_, by rw [HQ.out.1]; rfl, by rw [HQ.out.2]; exact World.ownsRow_nil _ _ _ _, Below.refl _ _⟩

end Go.Proofs.YtnogdjpbnhnmaaaGreatDoor
/- The contracts of the cursor's methods left, next, tenth, number, unfold and signed: what they answer or give up with, and where they leave the place. -/
namespace Go.Proofs.YtnogdjpbnhnmaaaGreatDoor
open Go.RowKit Go.Wire1

/-- What the panics carry. -/
abbrev errV (a : Addr) : Value := .iface 220 (.pointer (some a))

/-- The five sentinels: where they lie, that they are five, that nothing of them is frozen. -/
structure Errs (w : World) (a : Nat → Addr) : Prop where
  s0 : w.cell? ⟨3, 0, none⟩ = some (errV (a 0))
  s1 : w.cell? ⟨4, 0, none⟩ = some (errV (a 1))
  s2 : w.cell? ⟨5, 0, none⟩ = some (errV (a 2))
  s3 : w.cell? ⟨6, 0, none⟩ = some (errV (a 3))
  s4 : w.cell? ⟨7, 0, none⟩ = some (errV (a 4))
  blk : ∀ i, i < 5 → ∃ c t, w.heap[(a i).block]? = some (.cells c t (0, 0))
  ne : ∀ i j, i < 5 → j < 5 → i ≠ j → a i ≠ a j
  room : 8 ≤ w.heap.size

theorem Errs.below {w w' : World} {a : Nat → Addr} {B : Nat} (h : Errs w a) (hb : Below B w w') (hB : w.heap.size ≤ B) : Errs w' a := by
  have key : ∀ g, (∃ v, w.cell? ⟨g, 0, none⟩ = some v) → w'.cell? ⟨g, 0, none⟩ = w.cell? ⟨g, 0, none⟩ := fun g ⟨v, hv⟩ => hb.cell (p := ⟨g, 0, none⟩) (by have := cell_lt hv; show g < B; omega)
  refine ⟨(key _ ⟨_, h.s0⟩).trans h.s0, (key _ ⟨_, h.s1⟩).trans h.s1, (key _ ⟨_, h.s2⟩).trans h.s2, (key _ ⟨_, h.s3⟩).trans h.s3, (key _ ⟨_, h.s4⟩).trans h.s4, fun i hi => ?_, h.ne, Nat.le_trans h.room hb.size⟩
  obtain ⟨c, t, e⟩ := h.blk i hi
  have := (Array.getElem?_eq_some_iff.1 e).1
  exact ⟨c, t, (hb.block _ (by omega)).trans e⟩

theorem Errs.only {w w' : World} {a : Nat → Addr} {b p : Nat} (h : Errs w a) (ho : Only b p w w') (h5 : 8 ≤ b) (hs : ∀ i, i < 5 → (a i).block ≠ b) : Errs w' a := by
  have key : ∀ g, g < 8 → w'.cell? ⟨g, 0, none⟩ = w.cell? ⟨g, 0, none⟩ := fun g hg => World.cell?_of_block (w := w) (ho.block g (by omega))
  exact ⟨(key _ (by decide)).trans h.s0, (key _ (by decide)).trans h.s1, (key _ (by decide)).trans h.s2, (key _ (by decide)).trans h.s3, (key _ (by decide)).trans h.s4, fun i hi => by
    obtain ⟨c, t, e⟩ := h.blk i hi; exact ⟨c, t, (ho.block _ (hs i hi)).trans e⟩, h.ne, by rw [ho.size]; exact h.room⟩

theorem Errs.lt {w : World} {a : Nat → Addr} (h : Errs w a) (i : Nat) (hi : i < 5) : (a i).block < w.heap.size := by
  obtain ⟨c, t, e⟩ := h.blk i hi
  exact (Array.getElem?_eq_some_iff.1 e).1
theorem Errs.five {w : World} {a : Nat → Addr} (h : Errs w a) : 8 ≤ w.heap.size := h.room
theorem Errs.drewN {w : World} {a : Nat → Addr} (h : Errs w a) (q : Nat) : Errs (w.drewN q) a := ⟨h.s0, h.s1, h.s2, h.s3, h.s4, h.blk, h.ne, h.room⟩

set_option maxHeartbeats 400000 in
set_option maxRecDepth 100000 in
theorem left_any (b o n cap : Nat) (sa : Option Addr) (k : Nat) (w : World) (hc : Cur w b o sa n cap k) (hk : k ≤ n) (hn : n ≤ maxLen) :
    Calls Tryz.prog 190 #[.pointer (some ⟨b, o, none⟩)] w fun e w' => e = .returned (.int .i64 ((n : Int) - (k : Int))) ∧ ∃ q, w' = w.drewN q := by
  obtain ⟨c0, c1, _⟩ := hc
  unfold maxLen at hn
  go_enter Tryz.func190, Tryz.ntmps190
  go_wp2
  go_quiet (fail)
  go_wp2
  go_ret
  exact ⟨rfl, _, rfl⟩

set_option maxHeartbeats 400000 in
set_option maxRecDepth 100000 in
theorem next_ok (b o n cap : Nat) (sa : Option Addr) (l : List Int) (k : Nat) (w : World) (hc : Cur w b o sa n cap k) (hs : Seg w sa n l) (hk : k < n) :
    Calls Tryz.prog 176 #[.pointer (some ⟨b, o, none⟩)] w fun e w' => e = .returned (.int .u8 (l.getD k 0)) ∧ Only b (o + 1) w w' ∧ Cur w' b o sa n cap (k + 1) := by
  have hc' := hc
  obtain ⟨c0, c1, f1⟩ := hc
  obtain ⟨hl, hn, hs⟩ := hs
  obtain ⟨sb, so, rfl, hcell⟩ := hs (by omega)
  have hcl := hcell k hk
  have HL : Hid (l.length = n) := hl
  have hn' := hn
  unfold maxLen at hn'
  clear hs hl hcell
  generalize l.getD k 0 = z at hcl ⊢
  have h0 : (((n : Int) - (k : Int)) == 0) = false := by simp; omega
  go_enter Tryz.func176, Tryz.ntmps176
  go_wp2_with fail
  refine (left_any b o n cap _ k _ hc' (by omega) hn).mono ?_
  rintro e w1 ⟨rfl, q, rfl⟩
  go_wp2_with fail
  go_quiet (fail)
  go_wp2
  go_ret
  refine ⟨rfl, ((Only.refl b (o + 1) w).drewN _).setCell _, hc'.step _⟩

set_option maxHeartbeats 400000 in
set_option maxRecDepth 100000 in
theorem next_end (b o n cap : Nat) (sa : Option Addr) (a : Nat → Addr) (w : World) (hc : Cur w b o sa n cap n) (hn : n ≤ maxLen) (he : Errs w a) :
    Calls Tryz.prog 176 #[.pointer (some ⟨b, o, none⟩)] w fun e w' => e = .panicked [{ v := errV (a 0), recovered := false }] ∧ Only b (o + 1) w w' ∧ Cur w' b o sa n cap n := by
  have e0 := he.s0
  have hn' := hn
  unfold maxLen at hn'
  have h0 : (((n : Int) - (n : Int)) == 0) = true := by simp
  go_enter Tryz.func176, Tryz.ntmps176
  go_wp2_with fail
  refine (left_any b o n cap _ n _ hc (by omega) hn).mono ?_
  rintro e w1 ⟨rfl, q, rfl⟩
  go_wp2
  exact ⟨rfl, rfl, (Only.refl b (o + 1) w).drewN _, hc.drewN _⟩

/-- What a reading comes to: the number, the place behind it; or a panic with the sentinel. -/
def Out (a : Nat → Addr) (r : Except Nat (Nat × Nat)) (e : Ending) (k k' : Nat) : Prop :=
  match r with
  | .ok (x, m) => e = .returned (.int .u64 (x : Int)) ∧ k' = k + m
  | .error i => e = .panicked [{ v := errV (a i), recovered := false }]

set_option maxHeartbeats 400000 in
set_option maxRecDepth 100000 in
theorem tenth_any (b o n cap : Nat) (sa : Option Addr) (l : List Int) (k : Nat) (a : Nat → Addr) (w : World) (hc : Cur w b o sa n cap k) (hs : Seg w sa n l) (hk : k ≤ n) (he : Errs w a) (h5 : 8 ≤ b) (hab : ∀ i, i < 5 → (a i).block ≠ b) :
    Calls Tryz.prog 177 #[.pointer (some ⟨b, o, none⟩)] w fun e w' => Only b (o + 1) w w' ∧ ∃ k', Cur w' b o sa n cap k' ∧ k' ≤ n ∧ Out a (decF 0 false (l.drop k)) e k k' := by
  have hn := hs.2.1
  by_cases hkn : k = n
  · subst hkn
    have hd : l.drop k = [] := by rw [List.drop_eq_nil_iff]; rw [hs.1]; exact Nat.le_refl _
    rw [hd]
    go_enter Tryz.func177, Tryz.ntmps177
    go_wp2_with fail
    refine (next_end b o k cap _ a _ hc hn he).mono ?_
    rintro e w1 ⟨rfl, ho, hc1⟩
    exact ⟨rfl, ho, k, hc1, Nat.le_refl _, rfl⟩
  · have hlt : k < n := by omega
    have HD : Hid (l.drop k = l.getD k 0 :: l.drop (k + 1)) := drop_cons (by rw [hs.1]; exact hlt)
    by_cases z0 : l.getD k 0 = 0
    · have HR : Hid (decF 0 false (l.drop k) = .error 2) := by rw [HD.out]; exact decF_tenth0 _ _ _ z0
      go_enter Tryz.func177, Tryz.ntmps177
      go_wp2_with fail
      refine (next_ok b o n cap _ l k _ hc hs hlt).mono ?_
      rintro e w1 ⟨rfl, ho, hc1⟩
      rw [z0]
      have e2 := (he.only ho h5 hab).s2
      go_wp2
      refine ⟨rfl, ho, k + 1, hc1, by omega, ?_⟩
      rw [HR.out]; rfl
    · by_cases z1 : l.getD k 0 = 1
      · have HR : Hid (decF 0 false (l.drop k) = .ok (1, 1)) := by rw [HD.out]; exact decF_tenth1 _ _ _ z1
        go_enter Tryz.func177, Tryz.ntmps177
        go_wp2_with fail
        refine (next_ok b o n cap _ l k _ hc hs hlt).mono ?_
        rintro e w1 ⟨rfl, ho, hc1⟩
        rw [z1]
        go_wp2
        go_ret
        refine ⟨ho, k + 1, hc1, by omega, ?_⟩
        rw [HR.out]; exact ⟨rfl, rfl⟩
      · have HR : Hid (decF 0 false (l.drop k) = .error 1) := by rw [HD.out]; exact decF_tenth2 _ _ _ z0 z1
        have b0 : (l.getD k 0 == 0) = false := beq_eq_false_iff_ne.2 z0
        have b1 : (l.getD k 0 == 1) = false := beq_eq_false_iff_ne.2 z1
        go_enter Tryz.func177, Tryz.ntmps177
        go_wp2_with fail
        refine (next_ok b o n cap _ l k _ hc hs hlt).mono ?_
        rintro e w1 ⟨rfl, ho, hc1⟩
        clear z0 z1
        generalize l.getD k 0 = z at *
        have e2 := (he.only ho h5 hab).s1
        go_wp2
        refine ⟨rfl, ho, k + 1, hc1, by omega, ?_⟩
        rw [HR.out]; rfl

end Go.Proofs.YtnogdjpbnhnmaaaGreatDoor
