/- Texts of the proof, joined. -/
import Derived.Test.YtlapgnbiflcpfaaGreatDoorJ38
import Derived.Test.YtlapgnbiflcpfaaGreatDoorJ35
import Derived.Test.YtlapgnbiflcpfaaGreatDoorJ42
import Derived.WalkKit
import Derived.Laws.AppendOwn
import Derived.Below
import Derived.Test.YtlapgnbiflcpfaaGreatDoorRows
import Derived.Test.YtlapgnbiflcpfaaGreatDoorJ09
/- How the checks of five records of the same parts stand to each other: the mathematics of RecordKin. -/
namespace Go.Proofs.YtlapgnbiflcpfaaGreatDoor
open Go.RowKit Go.Wire1

def mkR (kind : Int) (same : Bool) (row num round who : Int) (c : Cm) (seq : Int) (da : Option Addr) (dn dc : Nat) (deps : List Int) : Rc := ⟨kind, row, num, round, who, same, c, seq, da, dn, dc, deps, 0, 0⟩
theorem unl_iff {b : Bool} {e : Nat} (he : e ≠ 0) : unlR b e = 0 ↔ b = true := ⟨unl_zero he, fun h => by rw [h]; rfl⟩
theorem first_iff {n : Int} {r : Rc} : ∀ {xs : List Nat}, firstR n r xs = 0 ↔ ∀ x ∈ xs, faultR n r x = 0 := fun {xs} => ⟨firstR_all, by
  induction xs with
  | nil => intro _; rfl
  | cons a t ih =>
    intro H
    show (if faultR n r a = 0 then firstR n r t else _) = 0
    rw [if_pos (H a List.mem_cons_self)]
    exact ih fun y hy => H y (List.mem_cons_of_mem _ hy)⟩
theorem chk_row {n : Int} {r : Rc} {xs : List Nat} (hk : isKindR r.kind = true) (hx : extraR r = false) (hr : rowR r.kind = xs) : chkR n r = 0 ↔ isSizeB n = true ∧ ∀ x ∈ xs, faultR n r x = 0 := by
  constructor
  · intro h
    obtain ⟨h1, _, _, h4⟩ := chkR_zero h
    rw [hr] at h4
    exact ⟨h1, firstR_all h4⟩
  · rintro ⟨h1, h2⟩
    unfold chkR
    rw [h1, hk, hx, hr, first_iff.2 h2]
    rfl
theorem kin4 (n row num round who : Int) (c : Cm) (seq : Int) (da : Option Addr) (dn dc : Nat) (deps : List Int) : chkR n (mkR 4 false row num round who c seq da dn dc deps) = 0 ↔ isSizeB n = true ∧ unlR (rinstB n row num) 62 = 0 ∧ unlR (balR n (mkR 4 false row num round who c seq da dn dc deps)) 63 = 0 ∧ cmdR (mkR 4 false row num round who c seq da dn dc deps) = 0 ∧ unlR (seqR (mkR 4 false row num round who c seq da dn dc deps)) 65 = 0 ∧ unlR (depsR n (mkR 4 false row num round who c seq da dn dc deps)) 65 = 0 := by
  rw [chk_row (xs := [105, 98, 99, 113, 100]) rfl rfl rfl]
  simp only [List.mem_cons, List.not_mem_nil, or_false, forall_eq_or_imp, forall_eq]
  rfl
theorem kin3 (n row num round who : Int) (c : Cm) (seq : Int) (da : Option Addr) (dn dc : Nat) (deps : List Int) (s : Bool) : chkR n (mkR 3 s row num round who c seq da dn dc deps) = 0 ↔ isSizeB n = true ∧ unlR (rinstB n row num) 62 = 0 ∧ unlR (balR n (mkR 4 false row num round who c seq da dn dc deps)) 63 = 0 ∧ unlR (!s || (round == 0)) 64 = 0 ∧ cmdR (mkR 3 s row num round who c seq da dn dc deps) = 0 ∧ unlR (seqR (mkR 4 false row num round who c seq da dn dc deps)) 65 = 0 ∧ unlR (depsR n (mkR 4 false row num round who c seq da dn dc deps)) 65 = 0 := by
  rw [chk_row (xs := [105, 98, 115, 99, 113, 100]) rfl rfl rfl]
  simp only [List.mem_cons, List.not_mem_nil, or_false, forall_eq_or_imp, forall_eq]
  rfl
theorem kin5 (n row num round who : Int) (c : Cm) (seq : Int) (da : Option Addr) (dn dc : Nat) (deps : List Int) : chkR n (mkR 5 false row num 0 0 c seq da dn dc deps) = 0 ↔ isSizeB n = true ∧ unlR (rinstB n row num) 62 = 0 ∧ cmdR (mkR 4 false row num round who c seq da dn dc deps) = 0 ∧ unlR (seqR (mkR 4 false row num round who c seq da dn dc deps)) 65 = 0 ∧ unlR (depsR n (mkR 4 false row num round who c seq da dn dc deps)) 65 = 0 := by
  rw [chk_row (xs := [105, 99, 113, 100]) rfl rfl rfl]
  simp only [List.mem_cons, List.not_mem_nil, or_false, forall_eq_or_imp, forall_eq]
  rfl
theorem kin2 (n row num round who : Int) : chkR n (mkR 2 false row num round who zeroC 0 none 0 0 []) = 0 ↔ isSizeB n = true ∧ unlR (rinstB n row num) 62 = 0 ∧ unlR (balR n (mkR 2 false row num round who zeroC 0 none 0 0 [])) 63 = 0 := by
  rw [chk_row (xs := [105, 98]) rfl (by kernel_rfl) rfl]
  simp only [List.mem_cons, List.not_mem_nil, or_false, forall_eq_or_imp, forall_eq]
  rfl
theorem cmd4 (row num round who : Int) (c : Cm) (seq : Int) (da : Option Addr) (dn dc : Nat) (deps : List Int) : cmdR (mkR 4 false row num round who c seq da dn dc deps) = 0 ↔ chk 2 c = 0 := by
  show (if chk 2 c = 0 then unlR true 65 else chk 2 c) = 0 ↔ _
  split
  · rename_i h
    exact ⟨fun _ => h, fun _ => rfl⟩
  · exact Iff.rfl
theorem cmd3 (row num round who : Int) (c : Cm) (seq : Int) (da : Option Addr) (dn dc : Nat) (deps : List Int) (s : Bool) : cmdR (mkR 3 s row num round who c seq da dn dc deps) = 0 ↔ chk 2 c = 0 ∧ c.kind ≠ 0 := by
  show (if chk 2 c = 0 then unlR (false || !(c.kind == 0)) 65 else chk 2 c) = 0 ↔ _
  split
  · rename_i h
    rw [unl_iff (by decide)]
    constructor
    · intro q
      exact ⟨h, by simpa using q⟩
    · rintro ⟨_, q⟩
      simpa using q
  · rename_i h
    exact ⟨fun q => absurd q h, fun q => q.1⟩
theorem bal42 (n row num round who : Int) (c : Cm) (seq : Int) (da : Option Addr) (dn dc : Nat) (deps : List Int) (h : unlR (balR n (mkR 4 false row num round who c seq da dn dc deps)) 63 = 0) : 0 ≤ round ∧ (unlR (balR n (mkR 2 false row num round who zeroC 0 none 0 0 [])) 63 = 0 ↔ 0 < round) := by
  rw [unl_iff (by decide)] at h ⊢
  by_cases h0 : round = 0
  · subst h0
    refine ⟨by omega, ?_⟩
    have e : balR n (mkR 2 false row num 0 who zeroC 0 none 0 0 []) = ((who == row) && false) := rfl
    rw [e]
    simp
  · have e4 : balR n (mkR 4 false row num round who c seq da dn dc deps) = (decide (1 ≤ round) && (decide (round ≤ 65535) && (decide (0 ≤ who) && decide (who < n)))) := if_neg h0
    have e2 : balR n (mkR 2 false row num round who zeroC 0 none 0 0 []) = (decide (1 ≤ round) && (decide (round ≤ 65535) && (decide (0 ≤ who) && decide (who < n)))) := if_neg h0
    rw [e4] at h
    rw [e2]
    refine ⟨by simp only [Bool.and_eq_true, decide_eq_true_eq] at h; omega, fun _ => by simp only [Bool.and_eq_true, decide_eq_true_eq] at h; omega, fun _ => h⟩
/-- The five checks, all that can be. -/
theorem kin (n row num round who : Int) (c : Cm) (seq : Int) (da : Option Addr) (dn dc : Nat) (deps : List Int) :
    (chkR n (mkR 4 false row num round who c seq da dn dc deps) ≠ 0 ∧ chkR n (mkR 3 false row num round who c seq da dn dc deps) ≠ 0 ∧ chkR n (mkR 3 true row num round who c seq da dn dc deps) ≠ 0) ∨
    (chkR n (mkR 4 false row num round who c seq da dn dc deps) = 0 ∧ chkR n (mkR 5 false row num 0 0 c seq da dn dc deps) = 0 ∧
      ((c.kind = 0 ∧ chkR n (mkR 3 false row num round who c seq da dn dc deps) ≠ 0 ∧ chkR n (mkR 3 true row num round who c seq da dn dc deps) ≠ 0) ∨ (c.kind ≠ 0 ∧ chkR n (mkR 3 false row num round who c seq da dn dc deps) = 0 ∧ ((round = 0 ∧ chkR n (mkR 3 true row num round who c seq da dn dc deps) = 0) ∨ (round ≠ 0 ∧ chkR n (mkR 3 true row num round who c seq da dn dc deps) ≠ 0)))) ∧
      ((round = 0 ∧ chkR n (mkR 2 false row num round who zeroC 0 none 0 0 []) ≠ 0) ∨ (0 < round ∧ chkR n (mkR 2 false row num round who zeroC 0 none 0 0 []) = 0))) := by
  rw [Ne, Ne, Ne, Ne, kin4, kin3, kin3, kin5 n row num round who, kin2, cmd4, cmd3, cmd3]
  by_cases h : isSizeB n = true ∧ unlR (rinstB n row num) 62 = 0 ∧ unlR (balR n (mkR 4 false row num round who c seq da dn dc deps)) 63 = 0 ∧ chk 2 c = 0 ∧ unlR (seqR (mkR 4 false row num round who c seq da dn dc deps)) 65 = 0 ∧ unlR (depsR n (mkR 4 false row num round who c seq da dn dc deps)) 65 = 0
  · obtain ⟨h1, h2, h3, h4, h5, h6⟩ := h
    obtain ⟨hr, hb⟩ := bal42 n row num round who c seq da dn dc deps h3
    refine .inr ⟨⟨h1, h2, h3, h4, h5, h6⟩, ⟨h1, h2, h4, h5, h6⟩, ?_, ?_⟩
    · by_cases hk : c.kind = 0
      · exact .inl ⟨hk, fun q => q.2.2.2.2.1.2 hk, fun q => q.2.2.2.2.1.2 hk⟩
      · refine .inr ⟨hk, ⟨h1, h2, h3, rfl, ⟨h4, hk⟩, h5, h6⟩, ?_⟩
        by_cases h0 : round = 0
        · exact .inl ⟨h0, h1, h2, h3, by rw [h0]; rfl, ⟨h4, hk⟩, h5, h6⟩
        · refine .inr ⟨h0, fun q => ?_⟩
          have := (unl_iff (by decide)).1 q.2.2.2.1
          simp [h0] at this
    · by_cases h0 : round = 0
      · exact .inl ⟨h0, fun q => absurd (hb.1 ((kin2 n row num round who).1 q).2.2) (by omega)⟩
      · exact .inr ⟨by omega, h1, h2, hb.2 (by omega)⟩
  · exact .inl ⟨h, fun q => h ⟨q.1, q.2.1, q.2.2.1, q.2.2.2.2.1.1, q.2.2.2.2.2⟩, fun q => h ⟨q.1, q.2.1, q.2.2.1, q.2.2.2.2.1.1, q.2.2.2.2.2⟩⟩

theorem built3 (row num round who : Int) (c : Cm) (seq : Int) (da : Option Addr) (dn dc : Nat) : Tryz.prog.built 30 [(0, Value.int .i64 3), (1, Value.agg #[.int .i64 row, .int .i64 num]), (2, Value.agg #[.int .i64 round, .int .i64 who]), (4, .agg #[.int .i64 c.kind, .int .i64 c.client, .int .i64 c.req, .string c.key, .string c.key2, .string c.val, .string c.old, .int .i64 c.n]), (5, Value.int .i64 seq), (6, Value.slice da dn dc)] = some (rcs (mkR 3 false row num round who c seq da dn dc [])).toArray := by kernel_rfl
theorem built3s (row num round who : Int) (c : Cm) (seq : Int) (da : Option Addr) (dn dc : Nat) : Tryz.prog.built 30 [(0, Value.int .i64 3), (1, Value.agg #[.int .i64 row, .int .i64 num]), (2, Value.agg #[.int .i64 round, .int .i64 who]), (3, Value.bool true), (4, .agg #[.int .i64 c.kind, .int .i64 c.client, .int .i64 c.req, .string c.key, .string c.key2, .string c.val, .string c.old, .int .i64 c.n]), (5, Value.int .i64 seq), (6, Value.slice da dn dc)] = some (rcs (mkR 3 true row num round who c seq da dn dc [])).toArray := by kernel_rfl
theorem built4 (row num round who : Int) (c : Cm) (seq : Int) (da : Option Addr) (dn dc : Nat) : Tryz.prog.built 30 [(0, Value.int .i64 4), (1, Value.agg #[.int .i64 row, .int .i64 num]), (2, Value.agg #[.int .i64 round, .int .i64 who]), (4, .agg #[.int .i64 c.kind, .int .i64 c.client, .int .i64 c.req, .string c.key, .string c.key2, .string c.val, .string c.old, .int .i64 c.n]), (5, Value.int .i64 seq), (6, Value.slice da dn dc)] = some (rcs (mkR 4 false row num round who c seq da dn dc [])).toArray := by kernel_rfl
theorem built5 (row num : Int) (c : Cm) (seq : Int) (da : Option Addr) (dn dc : Nat) : Tryz.prog.built 30 [(0, Value.int .i64 5), (1, Value.agg #[.int .i64 row, .int .i64 num]), (4, .agg #[.int .i64 c.kind, .int .i64 c.client, .int .i64 c.req, .string c.key, .string c.key2, .string c.val, .string c.old, .int .i64 c.n]), (5, Value.int .i64 seq), (6, Value.slice da dn dc)] = some (rcs (mkR 5 false row num 0 0 c seq da dn dc [])).toArray := by kernel_rfl
theorem built2 (row num round who : Int) : Tryz.prog.built 30 [(0, Value.int .i64 2), (1, Value.agg #[.int .i64 row, .int .i64 num]), (2, Value.agg #[.int .i64 round, .int .i64 who])] = some (rcs (mkR 2 false row num round who zeroC 0 none 0 0 [])).toArray := by kernel_rfl
end Go.Proofs.YtlapgnbiflcpfaaGreatDoor
/- How an argument that is a ballot is opened for the walks. -/
namespace Go.Proofs.YtlapgnbiflcpfaaGreatDoor
open Go.ChangeShapes Go.WideShapes Go.ChangeAt Go.RowKit Go.Wire1

theorem vcellsB : Tryz.prog.cellsOf 25 = 2 := by kernel_rfl
set_option maxRecDepth 100000 in
theorem vopen_bal {H : Type} {enc : TypeId × Value → H} {W : World} {b0 : Nat} {v : Value} {d : DataW H} {p : List MemPlace}
    (hv : Value.okWide Tryz.prog W .any b0 25 v) (h : DataW.Trod enc Tryz.prog W 0 (fun _ => true) true 25 v d p) :
    ∃ x y : Int, v = .agg #[.int .i64 x, .int .i64 y] ∧ -9223372036854775808 ≤ x ∧ x ≤ 9223372036854775807 ∧ -9223372036854775808 ≤ y ∧ y ≤ 9223372036854775807 := by
  obtain ⟨c0, c1, y0, y1, n, rfl, _, _, t0, t1⟩ := Go.Joins.open_agg2 Tryz.underlying25 (by kernel_rfl) vcellsB hv h
  obtain ⟨k0, e0, _, w0⟩ := DataW.trod_int Tryz.underlying3 t0
  obtain ⟨k1, e1, _, w1⟩ := DataW.trod_int Tryz.underlying3 t1
  simp only [List.cons.injEq, and_true] at e0 e1
  subst e0 e1
  have b0 := bounds_i64 w0
  have b1 := bounds_i64 w1
  exact ⟨k0, k1, rfl, by omega, by omega, by omega, by omega⟩
end Go.Proofs.YtlapgnbiflcpfaaGreatDoor
/- A law of our own: a list of bytes appended to a row of bytes of our own, where both together may be somewhat longer than 2^47. -/
namespace Go
open Go.RowKit

theorem nextslicecap_wide2 {old q : Nat} (h : q ≤ 140737505132544) (hq : old < q) : Builtin.nextslicecap q old ≤ 281474976710656 := by
  unfold Builtin.nextslicecap
  split
  · omega
  · split
    · omega
    · rw [growBy_four]
      repeat' split
      all_goals omega

theorem run_append_wide2 {P : Program} (w : World) (base : Nat) (t ty e : TypeId) (i : TypeInfo) (z : Value) (ht : P.underlying t = some (.slice e)) (hi : P.info? e = some i) (hz : i.zero = some z)
    (hsize : i.size = 1) (hby : i.bytes = 1) (hzs : z.cells.size = 1)
    (v : Value) (n : Nat) (xs : List Value) (hown : w.ownsRow base e 1 v n xs) (h0 : 0 < n)
    (a : Addr) (m c : Nat) (us : List Value) (hm : us.length = m) (hnews : ∀ j x, us[j]? = some x → w.cell? (a.add j) = some x) (h1 : ∀ x ∈ us, x.oneCell' = true)
    (hn : n + m ≤ 140737505132544) (hbase : base ≤ w.heap.size) :
    ∃ v' w', (Builtin.append_ #[t, t] ty #[v, .slice (some a) m c]).run P w = .ok v' w' ∧ w'.ownsRow base e 1 v' (n + m) (xs ++ us) ∧ w.grownBy w' v.ownBlock := by
  have h63 : n + m ≤ maxLen := by simp only [maxLen]; omega
  by_cases hs : n + m ≤ 140737488355328
  · obtain ⟨v', w', hr, h2, h3, _⟩ := run_append_own (P := P) w base t ty e i z 1 1 ht hi hz hsize hby hzs (by decide) v n xs hown a m c us (by omega) hnews h1 h63 (by omega) hbase
    exact ⟨v', w', hr, h2, h3⟩
  · have hlen : (xs ++ us).length = (n + m) * 1 := by rw [List.length_append, hown.1]; omega
    rcases hown.2 with ⟨rfl, rfl⟩ | ⟨g, cap, cur, rfl, hbg, hg, hnc, hcm, hcs, htake⟩
    · omega
    · by_cases hroom : n + m ≤ cap
      · have hfit : n * i.size + us.length ≤ cur.size := by rw [hsize, hcs]; omega
        have hr := run_append_room (P := P) w t ty e i ht hi g n cap cur hg a m c us (by rw [hsize]; omega) hnews h1 hroom hfit
        rw [hsize, Nat.mul_one] at hr
        refine ⟨_, _, hr, ⟨hlen, .inr ⟨g, cap, _, rfl, hbg, setRow_heap w g cur _ e _ hg, hroom, hcm, ?_, ?_⟩⟩, ⟨rfl, rfl, rfl, by simp, fun k _ hk => setRow_other w g k _ (fun e => hk (by simp [Value.ownBlock, e]))⟩⟩
        · simp only [List.size_toArray, List.length_append, List.length_take, List.length_drop, Array.length_toList]
          omega
        · rw [Nat.mul_one] at htake
          rw [htake, ← hlen]
          exact List.take_left
      · have holds : ∀ j x, xs[j]? = some x → w.cell? ((⟨g, 0, none⟩ : Addr).add j) = some x := hown.cells (g := g) rfl
        have hr := run_append_grow (P := P) w t ty e i z ht hi hz ⟨g, 0, none⟩ n cap xs (by rw [hsize]; exact hown.1) holds a m c us (by rw [hsize]; omega) hnews (by omega) (by simp only [maxLen] at h63; omega) (by rw [hby, Nat.mul_one]; exact nextslicecap_wide2 (by omega) (by omega))
        have hge := grownCap_ge w (n + m) cap e
        have hcm2 : grownCap w (n + m) cap e ≤ maxLen := grownCap_le_maxLen w (n + m) cap e h63
        refine ⟨_, _, hr, ⟨hlen, .inr ⟨w.heap.size, _, _, rfl, hbase, heap_alloc_new w.drew _, hge, hcm2, ?_, ?_⟩⟩, ⟨rfl, rfl, rfl, by simp, fun k hk _ => heap_alloc_old w.drew _ hk⟩⟩
        · simp only [Array.size_append, List.size_toArray, size_zeroCells, hzs, hown.1, Nat.mul_one]
          omega
        · simp only [Array.toList_append, List.append_assoc]
          rw [← List.append_assoc, ← hlen]
          exact List.take_left

theorem wpList_append_wide2 {P : Program} {w : World} {ops : Array Oper} {rest : List Oper} {o : Oper} {a : Act} {Q : Exit → Act → World → Prop} (hgd : o.guard = none) (s x : Operand) (t : TypeId)
    (ho : o.op = .call { callee := .builtin .append, args := #[s, x], argTypes := #[t, t] })
    (base : Nat) (e : TypeId) (i : TypeInfo) (z : Value) (ht : P.underlying t = some (.slice e)) (hi : P.info? e = some i) (hz : i.zero = some z)
    (hsize : i.size = 1) (hby : i.bytes = 1) (hzs : z.cells.size = 1)
    (v : Value) (n : Nat) (xs : List Value) (hs : a.eval s = v) (hown : w.ownsRow base e 1 v n xs) (h0 : 0 < n)
    (ad : Addr) (m c : Nat) (us : List Value) (hm : us.length = m) (hx : a.eval x = .slice (some ad) m c) (hnews : ∀ j x, us[j]? = some x → w.cell? (ad.add j) = some x) (h1 : ∀ x ∈ us, x.oneCell' = true)
    (hn : n + m ≤ 140737505132544) (hbase : base ≤ w.heap.size)
    (h : ∀ v' w', w'.ownsRow base e 1 v' (n + m) (xs ++ us) → w.grownBy w' v.ownBlock → wpList P ops Q rest (a.put o.dst v') w') : wpList P ops Q (o :: rest) a w := by
  refine wpList_plain hgd fun K hK => ?_
  obtain ⟨v', w', hr, h2, h3⟩ := run_append_wide2 (P := P) w base t o.type e i z ht hi hz hsize hby hzs v n xs hown h0 ad m c us hm hnews h1 hn hbase
  unfold Oper.wp execOp
  simp only [ho, resolve, invoke, builtin, Sem.run_bind, Sem.run_pure, Result.andThen_ok, List.map_toArray, List.map_cons, List.map_nil, hs, hx, hr]
  exact hK _ _ (h v' w' h2 h3)
end Go
/- The contract of the statements' helper Bytes: a new list. -/
namespace Go.Proofs.YtlapgnbiflcpfaaGreatDoor
open Go.RowKit Go.Wire1

set_option maxHeartbeats 1000000 in
set_option maxRecDepth 100000 in
theorem bytes_any (a : Option Addr) (n cap : Nat) (xs : List Int) (w : World) (ha : Seg w a n xs) (hlen : n ≤ 140737488355328) :
    Calls Tryz.prog 16 #[.slice a n cap] w fun e w' => ∃ v, e = .returned v ∧ w'.ownsRow w.heap.size 5 1 v xs.length (xs.map (Value.int .u8)) ∧ Below w.heap.size w w' := by
  obtain ⟨i0, hi, hz0, hz1, hz2⟩ := info_parts Tryz.info5
  have HA : Hid (Seg w a n xs) := ha
  have hxl : Hid (xs.length = n) := ha.1
  clear ha
  go_enter Tryz.func16, Tryz.ntmps16
  go_wp2
  go_loopw [3, 4] (fun v c wr => ∃ k : Nat, c = .int .i64 (k : Int) ∧ k ≤ n ∧ wr.ownsRow w.heap.size 5 1 v (xs.take k).length ((xs.take k).map (Value.int .u8)) ∧ Below w.heap.size w wr) (fun _ c _ => n - (intOf c).toNat)
  case atStart => exact ⟨0, rfl, Nat.zero_le _, World.ownsRow_nil _ _ _ _, Below.refl _ _⟩
  case round =>
    obtain ⟨k, rfl, hk, hown, hbel⟩ := hrel
    have hsz := hbel.size
    have htl : (xs.take k).length ≤ k := List.length_take_le _ _
    by_cases hlt : k < n
    · obtain ⟨ba, oa, rfl, hca⟩ := (HA.out.below hbel (Nat.le_refl _)).2.2 (by omega)
      have ca : wr.cell? ⟨ba, oa + k, none⟩ = some (.int .u8 (xs.getD k 0)) := hca k hlt
      have HT : Hid (xs.take (k + 1) = xs.take k ++ [xs.getD k 0]) := take_next (by have := hxl.out; omega)
      clear hca
      generalize xs.getD k 0 = z at *
      generalize xs.take k = pre at *
      go_wp2_with (first
        | (at_builtin; refine wpList_append_own _ rfl _ _ 31 rfl w.heap.size 5 i0 (.int .u8 0) 1 1 Tryz.underlying31 hi hz0 hz1 hz2 rfl (by decide) _ _ _ rfl (hown.alloc _) ⟨wr.heap.size, 0, none⟩ 1 1 [.int .u8 z] rfl rfl ?c1 ?c2 ?c3 ?c4 ?c5 ?_))
      case c1 =>
        intro j u hj
        match j, hj with
        | 0, hj => simp at hj; subst hj; simp [Addr.add]
      case c2 => intro u hu; simp at hu; subst hu; rfl
      case c3 => unfold maxLen; omega
      case c4 => omega
      case c5 => simp; omega
      intro v' w1 hown' hgrow _
      have R := push hsz hown hbel hown' hgrow
      clear hown' hgrow hown
      go_wp2
      go_roundw
      case rel => rw [← HT.out] at R; exact ⟨k + 1, by go_num, by omega, R.1, R.2⟩
      case measure => simp [intOf]; omega
    · have HT : Hid (xs.take k = xs) := List.take_of_length_le (by have := hxl.out; omega)
      rw [HT.out] at hown
      clear htl
      go_wp2
      go_ret
      exact ⟨_, rfl, hown, hbel⟩
end Go.Proofs.YtlapgnbiflcpfaaGreatDoor
