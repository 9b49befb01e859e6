/- How the checks of five records of the same parts stand to each other: the mathematics of RecordKin. -/
import Derived.Test.YtjpggmenbnkbbaaGreatDoorRBack
import Derived.Test.YtjpggmenbnkbbaaGreatDoorRBuild
import Derived.Test.YtjpggmenbnkbbaaGreatDoorVInst
namespace Go.Proofs.YtjpggmenbnkbbaaGreatDoor
open Go.RowKit Go.Wire1

def mkR (kind : Int) (same : Bool) (row num round who : Int) (c : Cm) (seq : Int) (da : Option Addr) (dn dc : Nat) (deps : List Int) : Rc := ⟨kind, row, num, round, who, same, c, seq, da, dn, dc, deps, 0, 0⟩
theorem unl_iff {b : Bool} {e : Nat} (he : e ≠ 0) : unlR b e = 0 ↔ b = true := ⟨unl_zero he, fun h => by rw [h]; rfl⟩
theorem first_iff {n : Int} {r : Rc} : ∀ {xs : List Nat}, firstR n r xs = 0 ↔ ∀ x ∈ xs, faultR n r x = 0 := fun {xs} => ⟨firstR_all, by
  induction xs with
  | nil => intro _; rfl
  | cons a t ih =>
    intro H
    show (if faultR n r a = 0 then firstR n r t else _) = 0
    rw [if_pos (H a List.mem_cons_self)]
    exact ih fun y hy => H y (List.mem_cons_of_mem _ hy)⟩
theorem chk_row {n : Int} {r : Rc} {xs : List Nat} (hk : isKindR r.kind = true) (hx : extraR r = false) (hr : rowR r.kind = xs) : chkR n r = 0 ↔ isSizeB n = true ∧ ∀ x ∈ xs, faultR n r x = 0 := by
  constructor
  · intro h
    obtain ⟨h1, _, _, h4⟩ := chkR_zero h
    rw [hr] at h4
    exact ⟨h1, firstR_all h4⟩
  · rintro ⟨h1, h2⟩
    unfold chkR
    rw [h1, hk, hx, hr, first_iff.2 h2]
    rfl
theorem kin4 (n row num round who : Int) (c : Cm) (seq : Int) (da : Option Addr) (dn dc : Nat) (deps : List Int) : chkR n (mkR 4 false row num round who c seq da dn dc deps) = 0 ↔ isSizeB n = true ∧ unlR (rinstB n row num) 62 = 0 ∧ unlR (balR n (mkR 4 false row num round who c seq da dn dc deps)) 63 = 0 ∧ cmdR (mkR 4 false row num round who c seq da dn dc deps) = 0 ∧ unlR (seqR (mkR 4 false row num round who c seq da dn dc deps)) 65 = 0 ∧ unlR (depsR n (mkR 4 false row num round who c seq da dn dc deps)) 65 = 0 := by
  rw [chk_row (xs := [105, 98, 99, 113, 100]) rfl rfl rfl]
  simp only [List.mem_cons, List.not_mem_nil, or_false, forall_eq_or_imp, forall_eq]
  rfl
theorem kin3 (n row num round who : Int) (c : Cm) (seq : Int) (da : Option Addr) (dn dc : Nat) (deps : List Int) (s : Bool) : chkR n (mkR 3 s row num round who c seq da dn dc deps) = 0 ↔ isSizeB n = true ∧ unlR (rinstB n row num) 62 = 0 ∧ unlR (balR n (mkR 4 false row num round who c seq da dn dc deps)) 63 = 0 ∧ unlR (!s || (round == 0)) 64 = 0 ∧ cmdR (mkR 3 s row num round who c seq da dn dc deps) = 0 ∧ unlR (seqR (mkR 4 false row num round who c seq da dn dc deps)) 65 = 0 ∧ unlR (depsR n (mkR 4 false row num round who c seq da dn dc deps)) 65 = 0 := by
  rw [chk_row (xs := [105, 98, 115, 99, 113, 100]) rfl rfl rfl]
  simp only [List.mem_cons, List.not_mem_nil, or_false, forall_eq_or_imp, forall_eq]
  rfl
theorem kin5 (n row num round who : Int) (c : Cm) (seq : Int) (da : Option Addr) (dn dc : Nat) (deps : List Int) : chkR n (mkR 5 false row num 0 0 c seq da dn dc deps) = 0 ↔ isSizeB n = true ∧ unlR (rinstB n row num) 62 = 0 ∧ cmdR (mkR 4 false row num round who c seq da dn dc deps) = 0 ∧ unlR (seqR (mkR 4 false row num round who c seq da dn dc deps)) 65 = 0 ∧ unlR (depsR n (mkR 4 false row num round who c seq da dn dc deps)) 65 = 0 := by
  rw [chk_row (xs := [105, 99, 113, 100]) rfl rfl rfl]
  simp only [List.mem_cons, List.not_mem_nil, or_false, forall_eq_or_imp, forall_eq]
  rfl
theorem kin2 (n row num round who : Int) : chkR n (mkR 2 false row num round who zeroC 0 none 0 0 []) = 0 ↔ isSizeB n = true ∧ unlR (rinstB n row num) 62 = 0 ∧ unlR (balR n (mkR 2 false row num round who zeroC 0 none 0 0 [])) 63 = 0 := by
  rw [chk_row (xs := [105, 98]) rfl (by kernel_rfl) rfl]
  simp only [List.mem_cons, List.not_mem_nil, or_false, forall_eq_or_imp, forall_eq]
  rfl
theorem cmd4 (row num round who : Int) (c : Cm) (seq : Int) (da : Option Addr) (dn dc : Nat) (deps : List Int) : cmdR (mkR 4 false row num round who c seq da dn dc deps) = 0 ↔ chk 2 c = 0 := by
  show (if chk 2 c = 0 then unlR true 65 else chk 2 c) = 0 ↔ _
  split
  · rename_i h
    exact ⟨fun _ => h, fun _ => rfl⟩
  · exact Iff.rfl
theorem cmd3 (row num round who : Int) (c : Cm) (seq : Int) (da : Option Addr) (dn dc : Nat) (deps : List Int) (s : Bool) : cmdR (mkR 3 s row num round who c seq da dn dc deps) = 0 ↔ chk 2 c = 0 ∧ c.kind ≠ 0 := by
  show (if chk 2 c = 0 then unlR (false || !(c.kind == 0)) 65 else chk 2 c) = 0 ↔ _
  split
  · rename_i h
    rw [unl_iff (by decide)]
    constructor
    · intro q
      exact ⟨h, by simpa using q⟩
    · rintro ⟨_, q⟩
      simpa using q
  · rename_i h
    exact ⟨fun q => absurd q h, fun q => q.1⟩
theorem bal42 (n row num round who : Int) (c : Cm) (seq : Int) (da : Option Addr) (dn dc : Nat) (deps : List Int) (h : unlR (balR n (mkR 4 false row num round who c seq da dn dc deps)) 63 = 0) : 0 ≤ round ∧ (unlR (balR n (mkR 2 false row num round who zeroC 0 none 0 0 [])) 63 = 0 ↔ 0 < round) := by
  rw [unl_iff (by decide)] at h ⊢
  by_cases h0 : round = 0
  · subst h0
    refine ⟨by omega, ?_⟩
    have e : balR n (mkR 2 false row num 0 who zeroC 0 none 0 0 []) = ((who == row) && false) := rfl
    rw [e]
    simp
  · have e4 : balR n (mkR 4 false row num round who c seq da dn dc deps) = (decide (1 ≤ round) && (decide (round ≤ 65535) && (decide (0 ≤ who) && decide (who < n)))) := if_neg h0
    have e2 : balR n (mkR 2 false row num round who zeroC 0 none 0 0 []) = (decide (1 ≤ round) && (decide (round ≤ 65535) && (decide (0 ≤ who) && decide (who < n)))) := if_neg h0
    rw [e4] at h
    rw [e2]
    refine ⟨by simp only [Bool.and_eq_true, decide_eq_true_eq] at h; omega, fun _ => by simp only [Bool.and_eq_true, decide_eq_true_eq] at h; omega, fun _ => h⟩
/-- The five checks, all that can be. -/
theorem kin (n row num round who : Int) (c : Cm) (seq : Int) (da : Option Addr) (dn dc : Nat) (deps : List Int) :
    (chkR n (mkR 4 false row num round who c seq da dn dc deps) ≠ 0 ∧ chkR n (mkR 3 false row num round who c seq da dn dc deps) ≠ 0 ∧ chkR n (mkR 3 true row num round who c seq da dn dc deps) ≠ 0) ∨
    (chkR n (mkR 4 false row num round who c seq da dn dc deps) = 0 ∧ chkR n (mkR 5 false row num 0 0 c seq da dn dc deps) = 0 ∧
      ((c.kind = 0 ∧ chkR n (mkR 3 false row num round who c seq da dn dc deps) ≠ 0 ∧ chkR n (mkR 3 true row num round who c seq da dn dc deps) ≠ 0) ∨ (c.kind ≠ 0 ∧ chkR n (mkR 3 false row num round who c seq da dn dc deps) = 0 ∧ ((round = 0 ∧ chkR n (mkR 3 true row num round who c seq da dn dc deps) = 0) ∨ (round ≠ 0 ∧ chkR n (mkR 3 true row num round who c seq da dn dc deps) ≠ 0)))) ∧
      ((round = 0 ∧ chkR n (mkR 2 false row num round who zeroC 0 none 0 0 []) ≠ 0) ∨ (0 < round ∧ chkR n (mkR 2 false row num round who zeroC 0 none 0 0 []) = 0))) := by
  rw [Ne, Ne, Ne, Ne, kin4, kin3, kin3, kin5 n row num round who, kin2, cmd4, cmd3, cmd3]
  by_cases h : isSizeB n = true ∧ unlR (rinstB n row num) 62 = 0 ∧ unlR (balR n (mkR 4 false row num round who c seq da dn dc deps)) 63 = 0 ∧ chk 2 c = 0 ∧ unlR (seqR (mkR 4 false row num round who c seq da dn dc deps)) 65 = 0 ∧ unlR (depsR n (mkR 4 false row num round who c seq da dn dc deps)) 65 = 0
  · obtain ⟨h1, h2, h3, h4, h5, h6⟩ := h
    obtain ⟨hr, hb⟩ := bal42 n row num round who c seq da dn dc deps h3
    refine .inr ⟨⟨h1, h2, h3, h4, h5, h6⟩, ⟨h1, h2, h4, h5, h6⟩, ?_, ?_⟩
    · by_cases hk : c.kind = 0
      · exact .inl ⟨hk, fun q => q.2.2.2.2.1.2 hk, fun q => q.2.2.2.2.1.2 hk⟩
      · refine .inr ⟨hk, ⟨h1, h2, h3, rfl, ⟨h4, hk⟩, h5, h6⟩, ?_⟩
        by_cases h0 : round = 0
        · exact .inl ⟨h0, h1, h2, h3, by rw [h0]; rfl, ⟨h4, hk⟩, h5, h6⟩
        · refine .inr ⟨h0, fun q => ?_⟩
          have := (unl_iff (by decide)).1 q.2.2.2.1
          simp [h0] at this
    · by_cases h0 : round = 0
      · exact .inl ⟨h0, fun q => absurd (hb.1 ((kin2 n row num round who).1 q).2.2) (by omega)⟩
      · exact .inr ⟨by omega, h1, h2, hb.2 (by omega)⟩
  · exact .inl ⟨h, fun q => h ⟨q.1, q.2.1, q.2.2.1, q.2.2.2.2.1.1, q.2.2.2.2.2⟩, fun q => h ⟨q.1, q.2.1, q.2.2.1, q.2.2.2.2.1.1, q.2.2.2.2.2⟩⟩

theorem built3 (row num round who : Int) (c : Cm) (seq : Int) (da : Option Addr) (dn dc : Nat) : Tryz.prog.built 30 [(0, Value.int .i64 3), (1, Value.agg #[.int .i64 row, .int .i64 num]), (2, Value.agg #[.int .i64 round, .int .i64 who]), (4, .agg #[.int .i64 c.kind, .int .i64 c.client, .int .i64 c.req, .string c.key, .string c.key2, .string c.val, .string c.old, .int .i64 c.n]), (5, Value.int .i64 seq), (6, Value.slice da dn dc)] = some (rcs (mkR 3 false row num round who c seq da dn dc [])).toArray := by kernel_rfl
theorem built3s (row num round who : Int) (c : Cm) (seq : Int) (da : Option Addr) (dn dc : Nat) : Tryz.prog.built 30 [(0, Value.int .i64 3), (1, Value.agg #[.int .i64 row, .int .i64 num]), (2, Value.agg #[.int .i64 round, .int .i64 who]), (3, Value.bool true), (4, .agg #[.int .i64 c.kind, .int .i64 c.client, .int .i64 c.req, .string c.key, .string c.key2, .string c.val, .string c.old, .int .i64 c.n]), (5, Value.int .i64 seq), (6, Value.slice da dn dc)] = some (rcs (mkR 3 true row num round who c seq da dn dc [])).toArray := by kernel_rfl
theorem built4 (row num round who : Int) (c : Cm) (seq : Int) (da : Option Addr) (dn dc : Nat) : Tryz.prog.built 30 [(0, Value.int .i64 4), (1, Value.agg #[.int .i64 row, .int .i64 num]), (2, Value.agg #[.int .i64 round, .int .i64 who]), (4, .agg #[.int .i64 c.kind, .int .i64 c.client, .int .i64 c.req, .string c.key, .string c.key2, .string c.val, .string c.old, .int .i64 c.n]), (5, Value.int .i64 seq), (6, Value.slice da dn dc)] = some (rcs (mkR 4 false row num round who c seq da dn dc [])).toArray := by kernel_rfl
theorem built5 (row num : Int) (c : Cm) (seq : Int) (da : Option Addr) (dn dc : Nat) : Tryz.prog.built 30 [(0, Value.int .i64 5), (1, Value.agg #[.int .i64 row, .int .i64 num]), (4, .agg #[.int .i64 c.kind, .int .i64 c.client, .int .i64 c.req, .string c.key, .string c.key2, .string c.val, .string c.old, .int .i64 c.n]), (5, Value.int .i64 seq), (6, Value.slice da dn dc)] = some (rcs (mkR 5 false row num 0 0 c seq da dn dc [])).toArray := by kernel_rfl
theorem built2 (row num round who : Int) : Tryz.prog.built 30 [(0, Value.int .i64 2), (1, Value.agg #[.int .i64 row, .int .i64 num]), (2, Value.agg #[.int .i64 round, .int .i64 who])] = some (rcs (mkR 2 false row num round who zeroC 0 none 0 0 [])).toArray := by kernel_rfl
end Go.Proofs.YtjpggmenbnkbbaaGreatDoor
