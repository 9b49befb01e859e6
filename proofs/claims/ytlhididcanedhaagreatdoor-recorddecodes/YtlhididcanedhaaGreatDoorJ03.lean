/- Texts of the proof, joined. -/
import Derived.Test.YtlhididcanedhaaGreatDoorRows
import Derived.Test.YtlhididcanedhaaGreatDoorJ02
import Derived.WalkKit
import Derived.WalkLawsBesides
import Derived.Deep.QuietTactic
import Derived.BigQuiet
import Derived.Test.YtlhididcanedhaaGreatDoorJ01
import Derived.Laws.CopyOwn
/- The contracts of package record's small predicates. -/
namespace Go.Proofs.YtlhididcanedhaaGreatDoor
open Go.RowKit Go.Wire1

theorem rcs0 (r : Rc) : (rcs r)[0]? = some (.int .i64 r.kind) := rfl
theorem rcs1 (r : Rc) : (rcs r)[1]? = some (.int .i64 r.row) := rfl
theorem rcs2 (r : Rc) : (rcs r)[2]? = some (.int .i64 r.num) := rfl
theorem rcs3 (r : Rc) : (rcs r)[3]? = some (.int .i64 r.round) := rfl
theorem rcs4 (r : Rc) : (rcs r)[4]? = some (.int .i64 r.who) := rfl
theorem rcs5 (r : Rc) : (rcs r)[5]? = some (.bool r.same) := rfl
theorem rcs6 (r : Rc) : (rcs r)[6]? = some (.int .i64 r.c.kind) := rfl
theorem rcs14 (r : Rc) : (rcs r)[14]? = some (.int .i64 r.seq) := rfl
theorem rcs15 (r : Rc) : (rcs r)[15]? = some (.slice r.da r.dn r.dc) := rfl
theorem rcs16 (r : Rc) : (rcs r)[16]? = some (.int .i64 r.id) := rfl
theorem rcs17 (r : Rc) : (rcs r)[17]? = some (.int .i64 r.n) := rfl
theorem rcs_len (r : Rc) : (rcs r).length = 18 := rfl
set_option maxHeartbeats 1000000 in
set_option maxRecDepth 100000 in
theorem risSize_any (n : Int) (w : World) :
    Calls Tryz.prog 24 #[.int .i64 n] w fun e w' => e = .returned (.bool (isSizeB n)) ∧ w = w' := by
  by_cases h0 : 1 ≤ n
  · by_cases h1 : n ≤ 7
    · have HQ : Hid (isSizeB n = true) := by simp [Hid, isSizeB, h0, h1]
      go_enter Tryz.func24, Tryz.ntmps24
      go_wp2
      go_ret
      exact ⟨by rw [HQ.out]; rfl, rfl⟩
    · have HQ : Hid (isSizeB n = false) := by simp [Hid, isSizeB, h0, h1]
      go_enter Tryz.func24, Tryz.ntmps24
      go_wp2
      go_ret
      exact ⟨by rw [HQ.out]; rfl, rfl⟩
  · have HQ : Hid (isSizeB n = false) := by simp [Hid, isSizeB, h0]
    go_enter Tryz.func24, Tryz.ntmps24
    go_wp2
    go_ret
    exact ⟨by rw [HQ.out]; rfl, rfl⟩
set_option maxHeartbeats 1000000 in
set_option maxRecDepth 100000 in
theorem risKind_any (n : Int) (w : World) :
    Calls Tryz.prog 34 #[.int .i64 n] w fun e w' => e = .returned (.bool (isKindR n)) ∧ w = w' := by
  by_cases h0 : 0 < n
  · by_cases h1 : n < 6
    · have HQ : Hid (isKindR n = true) := by simp [Hid, isKindR, h0, h1]
      go_enter Tryz.func34, Tryz.ntmps34
      go_wp2
      go_ret
      exact ⟨by rw [HQ.out]; rfl, rfl⟩
    · have HQ : Hid (isKindR n = false) := by simp [Hid, isKindR, h0, h1]
      go_enter Tryz.func34, Tryz.ntmps34
      go_wp2
      go_ret
      exact ⟨by rw [HQ.out]; rfl, rfl⟩
  · have HQ : Hid (isKindR n = false) := by simp [Hid, isKindR, h0]
    go_enter Tryz.func34, Tryz.ntmps34
    go_wp2
    go_ret
    exact ⟨by rw [HQ.out]; rfl, rfl⟩
set_option maxHeartbeats 1000000 in
set_option maxRecDepth 100000 in
theorem runless_any (b : Bool) (e : Nat) (w : World) :
    Calls Tryz.prog 68 #[.bool b, .int .i64 (e : Int)] w fun r w' => r = .returned (.int .i64 (unlR b e : Nat)) ∧ w = w' := by
  cases b <;>
  · go_enter Tryz.func68, Tryz.ntmps68
    go_wp2
    go_ret
    exact ⟨rfl, rfl⟩
set_option maxHeartbeats 1000000 in
set_option maxRecDepth 100000 in
theorem risInst_any (n row num : Int) (w : World) :
    Calls Tryz.prog 75 #[.int .i64 n, .agg #[.int .i64 row, .int .i64 num]] w fun e w' => e = .returned (.bool (rinstB n row num)) ∧ Below w.heap.size w w' := by
  by_cases h0 : 0 ≤ row
  · by_cases h1 : row < n
    · by_cases h2 : 1 ≤ num
      · by_cases h3 : num ≤ 1048576
        · have HQ : Hid (rinstB n row num = true) := by simp [Hid, rinstB, h0, h1, h2, h3]
          go_enter Tryz.func75, Tryz.ntmps75
          go_wp2
          go_ret
          exact ⟨by rw [HQ.out]; rfl, (Below.refl _ _).alloc (Nat.le_refl _) _⟩
        · have HQ : Hid (rinstB n row num = false) := by simp [Hid, rinstB, h0, h1, h2, h3]
          go_enter Tryz.func75, Tryz.ntmps75
          go_wp2
          go_ret
          exact ⟨by rw [HQ.out]; rfl, (Below.refl _ _).alloc (Nat.le_refl _) _⟩
      · have HQ : Hid (rinstB n row num = false) := by simp [Hid, rinstB, h0, h1, h2]
        go_enter Tryz.func75, Tryz.ntmps75
        go_wp2
        go_ret
        exact ⟨by rw [HQ.out]; rfl, (Below.refl _ _).alloc (Nat.le_refl _) _⟩
    · have HQ : Hid (rinstB n row num = false) := by simp [Hid, rinstB, h0, h1]
      go_enter Tryz.func75, Tryz.ntmps75
      go_wp2
      go_ret
      exact ⟨by rw [HQ.out]; rfl, (Below.refl _ _).alloc (Nat.le_refl _) _⟩
  · have HQ : Hid (rinstB n row num = false) := by simp [Hid, rinstB, h0]
    go_enter Tryz.func75, Tryz.ntmps75
    go_wp2
    go_ret
    exact ⟨by rw [HQ.out]; rfl, (Below.refl _ _).alloc (Nat.le_refl _) _⟩
set_option maxHeartbeats 1000000 in
set_option maxRecDepth 100000 in
theorem risNoop_any (r : Rc) (w : World) :
    Calls Tryz.prog 80 #[.agg (rcs r).toArray] w fun e w' => e = .returned (.bool (noopR r)) ∧ Below w.heap.size w w' := by
  have g6 := rcs6 r
  go_enter Tryz.func80, Tryz.ntmps80
  go_wp2
  go_ret
  exact ⟨rfl, (Below.refl _ _).alloc (Nat.le_refl _) _⟩
set_option maxHeartbeats 1000000 in
set_option maxRecDepth 100000 in
theorem rmayNoop_any (r : Rc) (w : World) :
    Calls Tryz.prog 79 #[.agg (rcs r).toArray] w fun e w' => e = .returned (.bool (mayR r)) ∧ Below w.heap.size w w' := by
  have g0 := rcs0 r
  go_enter Tryz.func79, Tryz.ntmps79
  go_wp2
  go_ret
  exact ⟨rfl, (Below.refl _ _).alloc (Nat.le_refl _) _⟩
set_option maxHeartbeats 1000000 in
set_option maxRecDepth 100000 in
theorem risHead_any (r : Rc) (w : World) :
    Calls Tryz.prog 74 #[.agg (rcs r).toArray] w fun e w' => e = .returned (.bool (headB r)) ∧ Below w.heap.size w w' := by
  have g16 := rcs16 r
  have g17 := rcs17 r
  cases h0 : isSizeB r.n with
  | false =>
    have HQ : Hid (headB r = false) := by simp [Hid, headB, h0]
    go_enter Tryz.func74, Tryz.ntmps74
    go_wp2_with fail
    refine (risSize_any _ _).mono ?_
    rintro e w' ⟨rfl, rfl⟩
    rw [h0]
    clear h0
    go_wp2
    go_ret
    exact ⟨by rw [HQ.out]; rfl, (Below.refl _ _).alloc (Nat.le_refl _) _⟩
  | true =>
    by_cases h1 : 0 ≤ r.id
    · by_cases h2 : r.id < r.n
      · have HQ : Hid (headB r = true) := by simp [Hid, headB, h0, h1, h2]
        go_enter Tryz.func74, Tryz.ntmps74
        go_wp2_with fail
        refine (risSize_any _ _).mono ?_
        rintro e w' ⟨rfl, rfl⟩
        rw [h0]
        clear h0
        go_wp2
        go_ret
        exact ⟨by rw [HQ.out]; rfl, (Below.refl _ _).alloc (Nat.le_refl _) _⟩
      · have HQ : Hid (headB r = false) := by simp [Hid, headB, h2]
        have d2 : decide (r.id < r.n) = false := by simpa using h2
        go_enter Tryz.func74, Tryz.ntmps74
        go_wp2_with fail
        refine (risSize_any _ _).mono ?_
        rintro e w' ⟨rfl, rfl⟩
        rw [h0]
        clear h0
        go_wp2
        go_ret
        exact ⟨by rw [HQ.out]; rfl, (Below.refl _ _).alloc (Nat.le_refl _) _⟩
    · have HQ : Hid (headB r = false) := by simp [Hid, headB, h1]
      go_enter Tryz.func74, Tryz.ntmps74
      go_wp2_with fail
      refine (risSize_any _ _).mono ?_
      rintro e w' ⟨rfl, rfl⟩
      rw [h0]
      clear h0
      go_wp2
      go_ret
      exact ⟨by rw [HQ.out]; rfl, (Below.refl _ _).alloc (Nat.le_refl _) _⟩
set_option maxHeartbeats 1000000 in
set_option maxRecDepth 100000 in
theorem risBallot_any (n : Int) (r : Rc) (w : World) :
    Calls Tryz.prog 76 #[.int .i64 n, .agg (rcs r).toArray] w fun e w' => e = .returned (.bool (balR n r)) ∧ Below w.heap.size w w' := by
  have g0 := rcs0 r
  have g1 := rcs1 r
  have g3 := rcs3 r
  have g4 := rcs4 r
  by_cases hz : r.round = 0
  · have z0 : (r.round == 0) = true := by simpa using hz
    by_cases h1 : r.who = r.row
    · have z1 : (r.who == r.row) = true := by simpa using h1
      by_cases h2 : r.kind = 2
      · have z2 : (r.kind != 2) = false := by simp [h2]
        have HQ : Hid (balR n r = false) := by simp [Hid, balR, hz, h2]
        clear hz h1 h2
        go_enter Tryz.func76, Tryz.ntmps76
        go_wp2
        go_ret
        exact ⟨by rw [HQ.out]; rfl, (((Below.refl _ w).alloc (Nat.le_refl _) _).alloc (by simp) _)⟩
      · have z2 : (r.kind != 2) = true := by simpa using h2
        have HQ : Hid (balR n r = true) := by simp [Hid, balR, hz, h1, z2]
        clear hz h1 h2
        go_enter Tryz.func76, Tryz.ntmps76
        go_wp2
        go_ret
        exact ⟨by rw [HQ.out]; rfl, (((Below.refl _ w).alloc (Nat.le_refl _) _).alloc (by simp) _)⟩
    · have z1 : (r.who == r.row) = false := by simpa using h1
      have HQ : Hid (balR n r = false) := by simp [Hid, balR, hz, h1]
      clear hz h1
      go_enter Tryz.func76, Tryz.ntmps76
      go_wp2
      go_ret
      exact ⟨by rw [HQ.out]; rfl, (((Below.refl _ w).alloc (Nat.le_refl _) _).alloc (by simp) _)⟩
  · have z0 : (r.round == 0) = false := by simpa using hz
    by_cases h0 : 1 ≤ r.round
    · by_cases h1 : r.round ≤ 65535
      · by_cases h2 : 0 ≤ r.who
        · by_cases h3 : r.who < n
          · have HQ : Hid (balR n r = true) := by simp [Hid, balR, hz, h0, h1, h2, h3]
            clear hz
            go_enter Tryz.func76, Tryz.ntmps76
            go_wp2
            go_ret
            exact ⟨by rw [HQ.out]; rfl, (((Below.refl _ w).alloc (Nat.le_refl _) _).alloc (by simp) _)⟩
          · have HQ : Hid (balR n r = false) := by simp [Hid, balR, hz, h0, h1, h2, h3]
            clear hz
            go_enter Tryz.func76, Tryz.ntmps76
            go_wp2
            go_ret
            exact ⟨by rw [HQ.out]; rfl, (((Below.refl _ w).alloc (Nat.le_refl _) _).alloc (by simp) _)⟩
        · have HQ : Hid (balR n r = false) := by simp [Hid, balR, hz, h0, h1, h2]
          clear hz
          go_enter Tryz.func76, Tryz.ntmps76
          go_wp2
          go_ret
          exact ⟨by rw [HQ.out]; rfl, (((Below.refl _ w).alloc (Nat.le_refl _) _).alloc (by simp) _)⟩
      · have HQ : Hid (balR n r = false) := by simp [Hid, balR, hz, h0, h1]
        clear hz
        go_enter Tryz.func76, Tryz.ntmps76
        go_wp2
        go_ret
        exact ⟨by rw [HQ.out]; rfl, (((Below.refl _ w).alloc (Nat.le_refl _) _).alloc (by simp) _)⟩
    · have HQ : Hid (balR n r = false) := by simp [Hid, balR, hz, h0]
      clear hz
      go_enter Tryz.func76, Tryz.ntmps76
      go_wp2
      go_ret
      exact ⟨by rw [HQ.out]; rfl, (((Below.refl _ w).alloc (Nat.le_refl _) _).alloc (by simp) _)⟩
set_option maxHeartbeats 1000000 in
set_option maxRecDepth 100000 in
theorem risSeq_any (r : Rc) (w : World) :
    Calls Tryz.prog 81 #[.agg (rcs r).toArray] w fun e w' => e = .returned (.bool (seqR r)) ∧ Below w.heap.size w w' := by
  obtain ⟨V, hV⟩ : ∃ V, V = w.alloc (.cells (rcs r).toArray 30) := ⟨_, rfl⟩
  have Q : Hid (Blk V w.heap.size (rcs r)) := by rw [hV]; exact blk_new w 30 (rcs r)
  have BV : Hid (Below w.heap.size w V) := by rw [hV]; exact (Below.refl _ _).alloc (Nat.le_refl _) _
  have hVs : w.heap.size ≤ V.heap.size := BV.out.size
  cases h0 : noopR r with
  | true =>
    have HQ : Hid (seqR r = (r.seq == 0)) := by simp [Hid, seqR, h0]
    go_enter Tryz.func81, Tryz.ntmps81
    go_wp2_with (first | (refine wpList_load_mid rfl 30 _ rfl w.heap.size 0 rfl (rcs r) _ (by first | exact Q.out.range | (rw [← hV]; exact Q.out.range)) Tryz.underlying30 rfl (by kernel_rfl) ?_))
    rw [← hV]
    clear hV
    refine (risNoop_any r _).mono ?_
    rintro e w1 ⟨rfl, hb1⟩
    have B1 : Hid (Below w.heap.size w w1) := BV.out.trans (hb1.mono hVs)
    have q14 : w1.cell? ⟨w.heap.size, 14, none⟩ = some (.int .i64 r.seq) := (Q.out.on hb1).cell 14 _ (rcs14 r)
    rw [h0]
    clear h0 hb1 Q BV hVs
    go_wp2
    go_ret
    exact ⟨by rw [HQ.out]; rfl, B1.out⟩
  | false =>
    by_cases h1 : 1 ≤ r.seq
    · by_cases h2 : r.seq ≤ 1073741824
      · have HQ : Hid (seqR r = true) := by simp [Hid, seqR, h0, h1, h2]
        go_enter Tryz.func81, Tryz.ntmps81
        go_wp2_with (first | (refine wpList_load_mid rfl 30 _ rfl w.heap.size 0 rfl (rcs r) _ (by first | exact Q.out.range | (rw [← hV]; exact Q.out.range)) Tryz.underlying30 rfl (by kernel_rfl) ?_))
        rw [← hV]
        clear hV
        refine (risNoop_any r _).mono ?_
        rintro e w1 ⟨rfl, hb1⟩
        have B1 : Hid (Below w.heap.size w w1) := BV.out.trans (hb1.mono hVs)
        have q14 : w1.cell? ⟨w.heap.size, 14, none⟩ = some (.int .i64 r.seq) := (Q.out.on hb1).cell 14 _ (rcs14 r)
        rw [h0]
        clear h0 hb1 Q BV hVs
        go_wp2
        go_ret
        exact ⟨by rw [HQ.out]; rfl, B1.out⟩
      · have HQ : Hid (seqR r = false) := by simp [Hid, seqR, h0, h2]
        have d2 : decide (r.seq ≤ 1073741824) = false := by simpa using h2
        go_enter Tryz.func81, Tryz.ntmps81
        go_wp2_with (first | (refine wpList_load_mid rfl 30 _ rfl w.heap.size 0 rfl (rcs r) _ (by first | exact Q.out.range | (rw [← hV]; exact Q.out.range)) Tryz.underlying30 rfl (by kernel_rfl) ?_))
        rw [← hV]
        clear hV
        refine (risNoop_any r _).mono ?_
        rintro e w1 ⟨rfl, hb1⟩
        have B1 : Hid (Below w.heap.size w w1) := BV.out.trans (hb1.mono hVs)
        have q14 : w1.cell? ⟨w.heap.size, 14, none⟩ = some (.int .i64 r.seq) := (Q.out.on hb1).cell 14 _ (rcs14 r)
        rw [h0]
        clear h0 hb1 Q BV hVs
        go_wp2
        go_ret
        exact ⟨by rw [HQ.out]; rfl, B1.out⟩
    · have HQ : Hid (seqR r = false) := by simp [Hid, seqR, h0, h1]
      go_enter Tryz.func81, Tryz.ntmps81
      go_wp2_with (first | (refine wpList_load_mid rfl 30 _ rfl w.heap.size 0 rfl (rcs r) _ (by first | exact Q.out.range | (rw [← hV]; exact Q.out.range)) Tryz.underlying30 rfl (by kernel_rfl) ?_))
      rw [← hV]
      clear hV
      refine (risNoop_any r _).mono ?_
      rintro e w1 ⟨rfl, hb1⟩
      have B1 : Hid (Below w.heap.size w w1) := BV.out.trans (hb1.mono hVs)
      have q14 : w1.cell? ⟨w.heap.size, 14, none⟩ = some (.int .i64 r.seq) := (Q.out.on hb1).cell 14 _ (rcs14 r)
      rw [h0]
      clear h0 hb1 Q BV hVs
      go_wp2
      go_ret
      exact ⟨by rw [HQ.out]; rfl, B1.out⟩
end Go.Proofs.YtlhididcanedhaaGreatDoor
/- The contracts of what only reads a list of ints: isWidth, faultOf. -/
namespace Go.Proofs.YtlhididcanedhaaGreatDoor
open Go.RowKit Go.Wire1

def okI (n : Int) : Bool := decide (1 ≤ n ∧ n ≤ 7)
theorem okI_yes {n : Int} (h : 1 ≤ n ∧ n ≤ 7) : okI n = true := decide_eq_true h
theorem okI_no {n : Int} (h : ¬ (1 ≤ n ∧ n ≤ 7)) : okI n = false := decide_eq_false h
theorem okI_nat (n : Nat) : okI (n : Int) = okW n := by unfold okI okW; congr 1; apply propext; omega

set_option maxRecDepth 100000 in
theorem isWidth_any (n : Int) (w : World) :
    Calls Tryz.prog 131 #[.int .i64 n] w fun e w' => e = .returned (.bool (okI n)) ∧ w = w' := by
  by_cases h1 : 1 ≤ n
  · by_cases h2 : n ≤ 7
    · have HQ : Hid (okI n = true) := okI_yes (by omega)
      go_enter Tryz.func131, Tryz.ntmps131
      go_wp2
      go_ret
      exact ⟨by rw [HQ.out]; rfl, rfl⟩
    · have HQ : Hid (okI n = false) := okI_no (by omega)
      go_enter Tryz.func131, Tryz.ntmps131
      go_wp2
      go_ret
      exact ⟨by rw [HQ.out]; rfl, rfl⟩
  · have HQ : Hid (okI n = false) := okI_no (by omega)
    go_enter Tryz.func131, Tryz.ntmps131
    go_wp2
    go_ret
    exact ⟨by rw [HQ.out]; rfl, rfl⟩

set_option maxHeartbeats 400000 in
set_option maxRecDepth 100000 in
theorem vfaultOf_any (a : Option Addr) (n cap : Nat) (l : List Int) (w : World) (h : SegI w a n l) :
    Calls Tryz.prog 127 #[.slice a n cap] w fun e w' => e = .returned (.int .i64 (fault l : Int)) ∧ w = w' := by
  obtain ⟨hn, hn', ha, -⟩ := h
  have HN : Hid (l.length = n) := hn
  unfold maxLen at hn'
  have HF : Hid (fault l = if okW n = true then (if okL l = true then 0 else 32) else 31) := by show _ = _; rw [← hn]; rfl
  clear hn
  go_enter Tryz.func127, Tryz.ntmps127
  go_wp2_with fail
  refine (isWidth_any (n : Int) _).mono ?_
  rintro e w' ⟨rfl, rfl⟩
  rw [okI_nat]
  cases hw : okW n with
  | false =>
    have HQ : Hid (fault l = 31) := by show _ = _; rw [HF.out, hw]; rfl
    clear HF hw
    go_wp2
    go_ret
    exact ⟨by rw [HQ.out]; rfl, rfl⟩
  | true =>
    have HQ : Hid (fault l = if okL l = true then 0 else 32) := by show _ = _; rw [HF.out, hw]; rfl
    clear HF hw
    go_wp2
    go_loop [11] (fun i => ∃ k : Nat, i = .int .i64 (k : Int) ∧ k ≤ n ∧ Hid (okL (l.take k) = true)) (fun i => n - (intOf i).toNat)
    case atStart => exact ⟨0, rfl, Nat.zero_le _, rfl⟩
    case round =>
      obtain ⟨k, rfl, hk, HT⟩ := hrel
      by_cases hlt : k < n
      · obtain ⟨ba, oa, rfl, hca⟩ := ha (by omega)
        have ca := hca k hlt
        clear ha hca
        by_cases h0 : l.getD k 0 < 0
        · have HS : Hid (fault l = 32) := by show _ = _; rw [HQ.out, okL_no (k := k) (by have := HN.out; omega) (by omega)]; rfl
          clear HQ
          generalize l.getD k 0 = c at *
          go_wp2
          go_ret
          exact ⟨by rw [HS.out]; rfl, rfl⟩
        · by_cases h1 : 1048576 < l.getD k 0
          · have HS : Hid (fault l = 32) := by show _ = _; rw [HQ.out, okL_no (k := k) (by have := HN.out; omega) (by omega)]; rfl
            clear HQ
            generalize l.getD k 0 = c at *
            go_wp2
            go_ret
            exact ⟨by rw [HS.out]; rfl, rfl⟩
          · have HT' : Hid (okL (l.take (k + 1)) = true) := okL_step (by have := HN.out; omega) HT.out (by omega)
            generalize l.getD k 0 = c at *
            go_wp2
            go_round
            case rel => exact ⟨k + 1, by go_num, by omega, HT'⟩
            case measure => simp [intOf]; omega
      · have HS : Hid (fault l = 0) := by show _ = _; have := HT.out; rw [List.take_of_length_le (by have := HN.out; omega)] at this; rw [HQ.out, this]; rfl
        go_wp2
        go_ret
        exact ⟨by rw [HS.out]; rfl, rfl⟩

end Go.Proofs.YtlhididcanedhaaGreatDoor
/- A row of bytes of our own, at its block. -/
namespace Go.Proofs.YtlhididcanedhaaGreatDoor
open Go.RowKit Go.Wire1

theorem own_below {w w' : World} {B : Nat} {e : TypeId} {s : Nat} {v : Value} {n : Nat} {xs : List Value} {C : Nat} (h : w.ownsRow B e s v n xs) (hb : Below C w w') (hC : w.heap.size ≤ C) : w'.ownsRow B e s v n xs := by
  refine ⟨h.1, ?_⟩
  rcases h.2 with h2 | ⟨g, cap, cur, rfl, hB, hh, r⟩
  · exact .inl h2
  · exact .inr ⟨g, cap, cur, rfl, hB, by rw [hb.block g (by have := (Array.getElem?_eq_some_iff.1 hh).1; omega)]; exact hh, r⟩

/-- A row of bytes of our own, at its block. -/
def Mine (w : World) (B g N cap : Nat) (L : List Int) : Prop := w.ownsRow B 5 1 (.slice (some ⟨g, 0, none⟩) N cap) N (L.map (Value.int .u8)) ∧ L.length = N ∧ N ≤ cap ∧ cap ≤ maxLen ∧ B ≤ g

theorem mine_of {w : World} {B : Nat} {v : Value} {L : List Int} (h : w.ownsRow B 5 1 v L.length (L.map (Value.int .u8))) (hl : 0 < L.length) : ∃ g cap, v = .slice (some ⟨g, 0, none⟩) L.length cap ∧ Mine w B g L.length cap L := by
  rcases h.2 with ⟨_, h2⟩ | ⟨g, cap, cur, rfl, hB, hh, h3, h4, h5, h6⟩
  · omega
  · exact ⟨g, cap, rfl, h, rfl, h3, h4, hB⟩
theorem Mine.below {w w' : World} {B g N cap C : Nat} {L : List Int} (h : Mine w B g N cap L) (hb : Below C w w') (hC : w.heap.size ≤ C) : Mine w' B g N cap L := ⟨own_below h.1 hb hC, h.2⟩
theorem Mine.drewN {w : World} {B g N cap : Nat} {L : List Int} (h : Mine w B g N cap L) (q : Nat) : Mine (w.drewN q) B g N cap L := h
theorem Mine.seg {w : World} {B g N cap : Nat} {L : List Int} (h : Mine w B g N cap L) : Seg w (some ⟨g, 0, none⟩) N L := by
  obtain ⟨h1, rfl, h3, h4, _⟩ := h
  refine ⟨rfl, by omega, fun _ => ⟨g, 0, rfl, fun j hj => ?_⟩⟩
  rw [Nat.zero_add, h1.cellAt j (by omega)]
  simp [List.getElem?_eq_getElem hj]
theorem Mine.store {w : World} {B g N cap : Nat} {L : List Int} (h : Mine w B g N cap L) (k : Nat) (z : Int) : Mine (w.setCell ⟨g, k, none⟩ (.int .u8 z)) B g N cap (L.set k z) := by
  obtain ⟨h1, h2, h3⟩ := h
  exact ⟨by rw [List.map_set]; exact (h1.stored k _).1, by rw [List.length_set]; exact h2, h3⟩
end Go.Proofs.YtlhididcanedhaaGreatDoor
/- A row of ints of our own, at its block; the contract of copyOf. -/
namespace Go.Proofs.YtlhididcanedhaaGreatDoor
open Go.RowKit Go.Wire1

/-- A row of ints of our own, at its block. -/
def MineI (w : World) (B g N cap : Nat) (L : List Int) : Prop := w.ownsRow B 3 1 (.slice (some ⟨g, 0, none⟩) N cap) N (L.map (Value.int .i64)) ∧ L.length = N ∧ N ≤ cap ∧ cap ≤ maxLen ∧ B ≤ g

theorem mineI_of {w : World} {B : Nat} {v : Value} {L : List Int} (h : w.ownsRow B 3 1 v L.length (L.map (Value.int .i64))) (hl : 0 < L.length) : ∃ g cap, v = .slice (some ⟨g, 0, none⟩) L.length cap ∧ MineI w B g L.length cap L := by
  rcases h.2 with ⟨_, h2⟩ | ⟨g, cap, cur, rfl, hB, hh, h3, h4, h5, h6⟩
  · omega
  · exact ⟨g, cap, rfl, h, rfl, h3, h4, hB⟩
theorem MineI.below {w w' : World} {B g N cap C : Nat} {L : List Int} (h : MineI w B g N cap L) (hb : Below C w w') (hC : w.heap.size ≤ C) : MineI w' B g N cap L := ⟨own_below h.1 hb hC, h.2⟩
theorem MineI.drewN {w : World} {B g N cap : Nat} {L : List Int} (h : MineI w B g N cap L) (q : Nat) : MineI (w.drewN q) B g N cap L := h
theorem MineI.lt {w : World} {B g N cap : Nat} {L : List Int} (h : MineI w B g N cap L) : g < w.heap.size := (h.1.lt g rfl).2
theorem MineI.cell {w : World} {B g N cap : Nat} {L : List Int} (h : MineI w B g N cap L) {j : Nat} (hj : j < N) : w.cell? ⟨g, j, none⟩ = some (.int .i64 (L.getD j 0)) := by
  obtain ⟨h1, rfl, h3, h4, _⟩ := h
  rw [h1.cellAt j (by omega)]
  simp [List.getElem?_eq_getElem hj]
theorem MineI.frozen {w : World} {B g N cap : Nat} {L : List Int} (h : MineI w B g N cap L) (j : Nat) : w.frozen? ⟨g, j, none⟩ = false := h.1.frozenAt j
theorem MineI.seg {w : World} {B g N cap : Nat} {L : List Int} (h : MineI w B g N cap L) (hf : ∀ j, -9223372036854775808 ≤ L.getD j 0 ∧ L.getD j 0 ≤ 9223372036854775807) : SegI w (some ⟨g, 0, none⟩) N L :=
  ⟨h.2.1, by have := h.2.2; omega, fun _ => ⟨g, 0, rfl, fun j hj => by rw [Nat.zero_add]; exact h.cell hj⟩, hf⟩
theorem MineI.store {w : World} {B g N cap : Nat} {L : List Int} (h : MineI w B g N cap L) (k : Nat) (z : Int) : MineI (w.setCell ⟨g, k, none⟩ (.int .i64 z)) B g N cap (L.set k z) := by
  obtain ⟨h1, h2, h3⟩ := h
  exact ⟨by rw [List.map_set]; exact (h1.stored k _).1, by rw [List.length_set]; exact h2, h3⟩
theorem below_store {B g k : Nat} {w w' : World} (hb : Below B w w') (hg : B ≤ g) (v : Value) : Below B w (w'.setCell ⟨g, k, none⟩ v) := hb.setCell (p := ⟨g, k, none⟩) hg v

theorem Tryz.info3 : (Tryz.prog.info? 3).map (fun i => (i.zero, i.size, i.bytes)) = some (some (.int .i64 0), 1, 8) := by kernel_rfl
theorem Tryz.size3 : (Tryz.prog.info? 3).map (·.size) = some 1 := by kernel_rfl

theorem made_row {w : World} {B g n : Nat} {xs : List Value} (h : w.ownsRow B 3 1 (.slice (some ⟨g, 0, none⟩) n n) n xs) : ∃ cur : List Value, cur.length = n ∧ w.heap[g]? = some (.cells cur.toArray 3 (0, 0)) := by
  rcases h.2 with ⟨h1, _⟩ | ⟨g', cap, cur, h1, hB, hh, h3, h4, h5, h6⟩
  · cases h1
  · injection h1 with h7 h8 h9
    injection h7 with h7
    injection h7 with h7
    subst h7 h9
    exact ⟨cur.toList, by rw [Array.length_toList, h5, Nat.mul_one], by rw [Array.toArray_toList]; exact hh⟩
theorem own_of_row {w : World} {B g n : Nat} {cs : List Value} (h : w.heap[g]? = some (.cells cs.toArray 3 (0, 0))) (hB : B ≤ g) (hl : cs.length = n) (hm : n ≤ maxLen) : w.ownsRow B 3 1 (.slice (some ⟨g, 0, none⟩) n n) n cs :=
  ⟨by omega, .inr ⟨g, n, cs.toArray, rfl, hB, h, Nat.le_refl _, hm, by simp [hl], by simp [← hl]⟩⟩

end Go.Proofs.YtlhididcanedhaaGreatDoor
/- Lists that are laid anew, and rows of our own, as lists in memory. -/
namespace Go.Proofs.YtlhididcanedhaaGreatDoor
open Go.RowKit Go.Wire1

/-- Every number of a list is one of 64 bits. -/
def Fit (l : List Int) : Prop := ∀ j, -9223372036854775808 ≤ l.getD j 0 ∧ l.getD j 0 ≤ 9223372036854775807
theorem fit_of {l : List Int} (h : ∀ x ∈ l, -9223372036854775808 ≤ x ∧ x ≤ 9223372036854775807) : Fit l := fun j => by
  by_cases hj : j < l.length
  · rw [List.getD, List.getElem?_eq_getElem hj]; exact h _ (List.getElem_mem hj)
  · rw [List.getD, List.getElem?_eq_none (by omega)]; simp
theorem fit_ok {l : List Int} (h : okL l = true) : Fit l := fun j => by have := okL_at h j; omega

theorem cell_new (w : World) (cs : List Value) (t : TypeId) (j : Nat) : (w.alloc (.cells cs.toArray t)).cell? ⟨w.heap.size, j, none⟩ = cs[j]? := by
  have h : (w.alloc (.cells cs.toArray t)).heap[w.heap.size]? = some (.cells cs.toArray t (0, 0)) := heap_alloc_new w _
  rw [cell_of_row _ _ _ _ _ _ h]
  simp
theorem segI_new (w : World) (l : List Int) (hf : Fit l) (hl : l.length ≤ maxLen) : SegI (w.alloc (.cells ((l.map (Value.int .i64)).toArray) 3)) (some ⟨w.heap.size, 0, none⟩) l.length l := by
  refine ⟨rfl, hl, fun _ => ⟨_, 0, rfl, fun j hj => ?_⟩, hf⟩
  rw [Nat.zero_add, cell_new]
  simp [hj]
theorem own_segI {w : World} {B : Nat} {v : Value} {l : List Int} (h : w.ownsRow B 3 1 v l.length (l.map (Value.int .i64))) (hf : Fit l) : ∃ a cap, v = .slice a l.length cap ∧ l.length ≤ cap ∧ SegI w a l.length l := by
  by_cases h0 : 0 < l.length
  · obtain ⟨g, cap, rfl, hm⟩ := mineI_of h h0
    exact ⟨_, _, rfl, hm.2.2.1, hm.seg hf⟩
  · have hl : l = [] := List.eq_nil_of_length_eq_zero (by omega)
    subst hl
    rcases h.2 with ⟨rfl, _⟩ | ⟨g, cap, cur, rfl, hB, hh, h3, h4, h5, h6⟩
    · exact ⟨none, 0, rfl, Nat.le_refl _, rfl, by unfold maxLen; omega, fun h => by omega, hf⟩
    · exact ⟨_, cap, rfl, h3, rfl, by unfold maxLen; omega, fun h => by omega, hf⟩
theorem _root_.Go.RowKit.Below.drewN' {B : Nat} {w w' : World} (h : Below B w w') (q : Nat) : Below B w (w'.drewN q) := ⟨h.os, h.tape, h.output, h.size, h.block⟩
theorem _root_.Go.RowKit.Below.more {B : Nat} {x w : World} (h : Below B x w) (hB : B ≤ x.heap.size) (o : Obj) : Below B x (w.alloc o) := h.alloc (Nat.le_trans hB h.size) o
theorem _root_.Go.RowKit.Below.on {B : Nat} {x y z : World} (h : Below B x y) (k : Below y.heap.size y z) (hB : B ≤ x.heap.size) : Below B x z := h.trans (k.mono (Nat.le_trans hB h.size))
theorem segI_lit {w : World} (l : List Int) (hf : Fit l) (hl : l.length ≤ maxLen) {cs : Array Value} (hcs : cs = (l.map (Value.int .i64)).toArray) {b n : Nat} (hb : b = w.heap.size) (hn : n = l.length) : SegI (w.alloc (.cells cs 3)) (some ⟨b, 0, none⟩) n l := by
  subst hcs hb hn; exact segI_new w l hf hl
theorem _root_.Go.Wire1.SegI.on {w : World} {a : Option Addr} {n : Nat} {l : List Int} (h : SegI w a n l) (o : Obj) : SegI (w.alloc o) a n l := h.below ((Below.refl w.heap.size w).alloc (Nat.le_refl _) o) (Nat.le_refl _)
theorem own_base {w : World} {B B' : Nat} {e : TypeId} {s : Nat} {v : Value} {n : Nat} {xs : List Value} (h : w.ownsRow B e s v n xs) (hB : B' ≤ B) : w.ownsRow B' e s v n xs :=
  ⟨h.1, h.2.imp id fun ⟨g, cap, cur, h1, h2, h3⟩ => ⟨g, cap, cur, h1, Nat.le_trans hB h2, h3⟩⟩
theorem seg_lit {w : World} (l : List Int) (hl : l.length ≤ maxLen) {cs : Array Value} {t : TypeId} (hcs : cs = (l.map (Value.int .u8)).toArray) {b n : Nat} (hb : b = w.heap.size) (hn : n = l.length) : Seg (w.alloc (.cells cs t)) (some ⟨b, 0, none⟩) n l := by
  subst hcs hb hn
  refine ⟨rfl, hl, fun _ => ⟨_, 0, rfl, fun j hj => ?_⟩⟩
  rw [Nat.zero_add, cell_new]
  simp [hj]
end Go.Proofs.YtlhididcanedhaaGreatDoor
