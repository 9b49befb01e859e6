/- Texts of the proof, joined. -/
import Derived.Test.YtlapgnbiflcpfaaGreatDoorRows
import Derived.Test.YtlapgnbiflcpfaaGreatDoorJ02
import Derived.WalkKit
import Derived.WalkLawsBesides
import Derived.Deep.QuietTactic
import Derived.BigQuiet
import Derived.Test.YtlapgnbiflcpfaaGreatDoorJ01
/- The contracts of package record's small predicates. -/
namespace Go.Proofs.YtlapgnbiflcpfaaGreatDoor
open Go.RowKit Go.Wire1

theorem rcs0 (r : Rc) : (rcs r)[0]? = some (.int .i64 r.kind) := rfl
theorem rcs1 (r : Rc) : (rcs r)[1]? = some (.int .i64 r.row) := rfl
theorem rcs2 (r : Rc) : (rcs r)[2]? = some (.int .i64 r.num) := rfl
theorem rcs3 (r : Rc) : (rcs r)[3]? = some (.int .i64 r.round) := rfl
theorem rcs4 (r : Rc) : (rcs r)[4]? = some (.int .i64 r.who) := rfl
theorem rcs5 (r : Rc) : (rcs r)[5]? = some (.bool r.same) := rfl
theorem rcs6 (r : Rc) : (rcs r)[6]? = some (.int .i64 r.c.kind) := rfl
theorem rcs7 (r : Rc) : (rcs r)[7]? = some (.int .i64 r.c.client) := rfl
theorem rcs8 (r : Rc) : (rcs r)[8]? = some (.int .i64 r.c.req) := rfl
theorem rcs9 (r : Rc) : (rcs r)[9]? = some (.string r.c.key) := rfl
theorem rcs10 (r : Rc) : (rcs r)[10]? = some (.string r.c.key2) := rfl
theorem rcs11 (r : Rc) : (rcs r)[11]? = some (.string r.c.val) := rfl
theorem rcs12 (r : Rc) : (rcs r)[12]? = some (.string r.c.old) := rfl
theorem rcs13 (r : Rc) : (rcs r)[13]? = some (.int .i64 r.c.n) := rfl
theorem rcs14 (r : Rc) : (rcs r)[14]? = some (.int .i64 r.seq) := rfl
theorem rcs15 (r : Rc) : (rcs r)[15]? = some (.slice r.da r.dn r.dc) := rfl
theorem rcs16 (r : Rc) : (rcs r)[16]? = some (.int .i64 r.id) := rfl
theorem rcs17 (r : Rc) : (rcs r)[17]? = some (.int .i64 r.n) := rfl
theorem rcs_len (r : Rc) : (rcs r).length = 18 := rfl
set_option maxHeartbeats 1000000 in
set_option maxRecDepth 100000 in
theorem risSize_any (n : Int) (w : World) :
    Calls Tryz.prog 18 #[.int .i64 n] w fun e w' => e = .returned (.bool (isSizeB n)) ∧ w = w' := by
  by_cases h0 : 1 ≤ n
  · by_cases h1 : n ≤ 7
    · have HQ : Hid (isSizeB n = true) := by simp [Hid, isSizeB, h0, h1]
      go_enter Tryz.func18, Tryz.ntmps18
      go_wp2
      go_ret
      exact ⟨by rw [HQ.out]; rfl, rfl⟩
    · have HQ : Hid (isSizeB n = false) := by simp [Hid, isSizeB, h0, h1]
      go_enter Tryz.func18, Tryz.ntmps18
      go_wp2
      go_ret
      exact ⟨by rw [HQ.out]; rfl, rfl⟩
  · have HQ : Hid (isSizeB n = false) := by simp [Hid, isSizeB, h0]
    go_enter Tryz.func18, Tryz.ntmps18
    go_wp2
    go_ret
    exact ⟨by rw [HQ.out]; rfl, rfl⟩
set_option maxHeartbeats 1000000 in
set_option maxRecDepth 100000 in
theorem risKind_any (n : Int) (w : World) :
    Calls Tryz.prog 19 #[.int .i64 n] w fun e w' => e = .returned (.bool (isKindR n)) ∧ w = w' := by
  by_cases h0 : 0 < n
  · by_cases h1 : n < 6
    · have HQ : Hid (isKindR n = true) := by simp [Hid, isKindR, h0, h1]
      go_enter Tryz.func19, Tryz.ntmps19
      go_wp2
      go_ret
      exact ⟨by rw [HQ.out]; rfl, rfl⟩
    · have HQ : Hid (isKindR n = false) := by simp [Hid, isKindR, h0, h1]
      go_enter Tryz.func19, Tryz.ntmps19
      go_wp2
      go_ret
      exact ⟨by rw [HQ.out]; rfl, rfl⟩
  · have HQ : Hid (isKindR n = false) := by simp [Hid, isKindR, h0]
    go_enter Tryz.func19, Tryz.ntmps19
    go_wp2
    go_ret
    exact ⟨by rw [HQ.out]; rfl, rfl⟩
set_option maxHeartbeats 1000000 in
set_option maxRecDepth 100000 in
theorem runless_any (b : Bool) (e : Nat) (w : World) :
    Calls Tryz.prog 46 #[.bool b, .int .i64 (e : Int)] w fun r w' => r = .returned (.int .i64 (unlR b e : Nat)) ∧ w = w' := by
  cases b <;>
  · go_enter Tryz.func46, Tryz.ntmps46
    go_wp2
    go_ret
    exact ⟨rfl, rfl⟩
set_option maxHeartbeats 1000000 in
set_option maxRecDepth 100000 in
theorem risInst_any (n row num : Int) (w : World) :
    Calls Tryz.prog 48 #[.int .i64 n, .agg #[.int .i64 row, .int .i64 num]] w fun e w' => e = .returned (.bool (rinstB n row num)) ∧ Below w.heap.size w w' := by
  by_cases h0 : 0 ≤ row
  · by_cases h1 : row < n
    · by_cases h2 : 1 ≤ num
      · by_cases h3 : num ≤ 1048576
        · have HQ : Hid (rinstB n row num = true) := by simp [Hid, rinstB, h0, h1, h2, h3]
          go_enter Tryz.func48, Tryz.ntmps48
          go_wp2
          go_ret
          exact ⟨by rw [HQ.out]; rfl, (Below.refl _ _).alloc (Nat.le_refl _) _⟩
        · have HQ : Hid (rinstB n row num = false) := by simp [Hid, rinstB, h0, h1, h2, h3]
          go_enter Tryz.func48, Tryz.ntmps48
          go_wp2
          go_ret
          exact ⟨by rw [HQ.out]; rfl, (Below.refl _ _).alloc (Nat.le_refl _) _⟩
      · have HQ : Hid (rinstB n row num = false) := by simp [Hid, rinstB, h0, h1, h2]
        go_enter Tryz.func48, Tryz.ntmps48
        go_wp2
        go_ret
        exact ⟨by rw [HQ.out]; rfl, (Below.refl _ _).alloc (Nat.le_refl _) _⟩
    · have HQ : Hid (rinstB n row num = false) := by simp [Hid, rinstB, h0, h1]
      go_enter Tryz.func48, Tryz.ntmps48
      go_wp2
      go_ret
      exact ⟨by rw [HQ.out]; rfl, (Below.refl _ _).alloc (Nat.le_refl _) _⟩
  · have HQ : Hid (rinstB n row num = false) := by simp [Hid, rinstB, h0]
    go_enter Tryz.func48, Tryz.ntmps48
    go_wp2
    go_ret
    exact ⟨by rw [HQ.out]; rfl, (Below.refl _ _).alloc (Nat.le_refl _) _⟩
set_option maxHeartbeats 1000000 in
set_option maxRecDepth 100000 in
theorem risNoop_any (r : Rc) (w : World) :
    Calls Tryz.prog 53 #[.agg (rcs r).toArray] w fun e w' => e = .returned (.bool (noopR r)) ∧ Below w.heap.size w w' := by
  have g6 := rcs6 r
  go_enter Tryz.func53, Tryz.ntmps53
  go_wp2
  go_ret
  exact ⟨rfl, (Below.refl _ _).alloc (Nat.le_refl _) _⟩
set_option maxHeartbeats 1000000 in
set_option maxRecDepth 100000 in
theorem rmayNoop_any (r : Rc) (w : World) :
    Calls Tryz.prog 52 #[.agg (rcs r).toArray] w fun e w' => e = .returned (.bool (mayR r)) ∧ Below w.heap.size w w' := by
  have g0 := rcs0 r
  go_enter Tryz.func52, Tryz.ntmps52
  go_wp2
  go_ret
  exact ⟨rfl, (Below.refl _ _).alloc (Nat.le_refl _) _⟩
set_option maxHeartbeats 1000000 in
set_option maxRecDepth 100000 in
theorem risHead_any (r : Rc) (w : World) :
    Calls Tryz.prog 47 #[.agg (rcs r).toArray] w fun e w' => e = .returned (.bool (headB r)) ∧ Below w.heap.size w w' := by
  have g16 := rcs16 r
  have g17 := rcs17 r
  cases h0 : isSizeB r.n with
  | false =>
    have HQ : Hid (headB r = false) := by simp [Hid, headB, h0]
    go_enter Tryz.func47, Tryz.ntmps47
    go_wp2_with fail
    refine (risSize_any _ _).mono ?_
    rintro e w' ⟨rfl, rfl⟩
    rw [h0]
    clear h0
    go_wp2
    go_ret
    exact ⟨by rw [HQ.out]; rfl, (Below.refl _ _).alloc (Nat.le_refl _) _⟩
  | true =>
    by_cases h1 : 0 ≤ r.id
    · by_cases h2 : r.id < r.n
      · have HQ : Hid (headB r = true) := by simp [Hid, headB, h0, h1, h2]
        go_enter Tryz.func47, Tryz.ntmps47
        go_wp2_with fail
        refine (risSize_any _ _).mono ?_
        rintro e w' ⟨rfl, rfl⟩
        rw [h0]
        clear h0
        go_wp2
        go_ret
        exact ⟨by rw [HQ.out]; rfl, (Below.refl _ _).alloc (Nat.le_refl _) _⟩
      · have HQ : Hid (headB r = false) := by simp [Hid, headB, h2]
        have d2 : decide (r.id < r.n) = false := by simpa using h2
        go_enter Tryz.func47, Tryz.ntmps47
        go_wp2_with fail
        refine (risSize_any _ _).mono ?_
        rintro e w' ⟨rfl, rfl⟩
        rw [h0]
        clear h0
        go_wp2
        go_ret
        exact ⟨by rw [HQ.out]; rfl, (Below.refl _ _).alloc (Nat.le_refl _) _⟩
    · have HQ : Hid (headB r = false) := by simp [Hid, headB, h1]
      go_enter Tryz.func47, Tryz.ntmps47
      go_wp2_with fail
      refine (risSize_any _ _).mono ?_
      rintro e w' ⟨rfl, rfl⟩
      rw [h0]
      clear h0
      go_wp2
      go_ret
      exact ⟨by rw [HQ.out]; rfl, (Below.refl _ _).alloc (Nat.le_refl _) _⟩
set_option maxHeartbeats 1000000 in
set_option maxRecDepth 100000 in
theorem risBallot_any (n : Int) (r : Rc) (w : World) :
    Calls Tryz.prog 49 #[.int .i64 n, .agg (rcs r).toArray] w fun e w' => e = .returned (.bool (balR n r)) ∧ Below w.heap.size w w' := by
  have g0 := rcs0 r
  have g1 := rcs1 r
  have g3 := rcs3 r
  have g4 := rcs4 r
  by_cases hz : r.round = 0
  · have z0 : (r.round == 0) = true := by simpa using hz
    by_cases h1 : r.who = r.row
    · have z1 : (r.who == r.row) = true := by simpa using h1
      by_cases h2 : r.kind = 2
      · have z2 : (r.kind != 2) = false := by simp [h2]
        have HQ : Hid (balR n r = false) := by simp [Hid, balR, hz, h2]
        clear hz h1 h2
        go_enter Tryz.func49, Tryz.ntmps49
        go_wp2
        go_ret
        exact ⟨by rw [HQ.out]; rfl, (((Below.refl _ w).alloc (Nat.le_refl _) _).alloc (by simp) _)⟩
      · have z2 : (r.kind != 2) = true := by simpa using h2
        have HQ : Hid (balR n r = true) := by simp [Hid, balR, hz, h1, z2]
        clear hz h1 h2
        go_enter Tryz.func49, Tryz.ntmps49
        go_wp2
        go_ret
        exact ⟨by rw [HQ.out]; rfl, (((Below.refl _ w).alloc (Nat.le_refl _) _).alloc (by simp) _)⟩
    · have z1 : (r.who == r.row) = false := by simpa using h1
      have HQ : Hid (balR n r = false) := by simp [Hid, balR, hz, h1]
      clear hz h1
      go_enter Tryz.func49, Tryz.ntmps49
      go_wp2
      go_ret
      exact ⟨by rw [HQ.out]; rfl, (((Below.refl _ w).alloc (Nat.le_refl _) _).alloc (by simp) _)⟩
  · have z0 : (r.round == 0) = false := by simpa using hz
    by_cases h0 : 1 ≤ r.round
    · by_cases h1 : r.round ≤ 65535
      · by_cases h2 : 0 ≤ r.who
        · by_cases h3 : r.who < n
          · have HQ : Hid (balR n r = true) := by simp [Hid, balR, hz, h0, h1, h2, h3]
            clear hz
            go_enter Tryz.func49, Tryz.ntmps49
            go_wp2
            go_ret
            exact ⟨by rw [HQ.out]; rfl, (((Below.refl _ w).alloc (Nat.le_refl _) _).alloc (by simp) _)⟩
          · have HQ : Hid (balR n r = false) := by simp [Hid, balR, hz, h0, h1, h2, h3]
            clear hz
            go_enter Tryz.func49, Tryz.ntmps49
            go_wp2
            go_ret
            exact ⟨by rw [HQ.out]; rfl, (((Below.refl _ w).alloc (Nat.le_refl _) _).alloc (by simp) _)⟩
        · have HQ : Hid (balR n r = false) := by simp [Hid, balR, hz, h0, h1, h2]
          clear hz
          go_enter Tryz.func49, Tryz.ntmps49
          go_wp2
          go_ret
          exact ⟨by rw [HQ.out]; rfl, (((Below.refl _ w).alloc (Nat.le_refl _) _).alloc (by simp) _)⟩
      · have HQ : Hid (balR n r = false) := by simp [Hid, balR, hz, h0, h1]
        clear hz
        go_enter Tryz.func49, Tryz.ntmps49
        go_wp2
        go_ret
        exact ⟨by rw [HQ.out]; rfl, (((Below.refl _ w).alloc (Nat.le_refl _) _).alloc (by simp) _)⟩
    · have HQ : Hid (balR n r = false) := by simp [Hid, balR, hz, h0]
      clear hz
      go_enter Tryz.func49, Tryz.ntmps49
      go_wp2
      go_ret
      exact ⟨by rw [HQ.out]; rfl, (((Below.refl _ w).alloc (Nat.le_refl _) _).alloc (by simp) _)⟩
set_option maxHeartbeats 1000000 in
set_option maxRecDepth 100000 in
theorem risSeq_any (r : Rc) (w : World) :
    Calls Tryz.prog 54 #[.agg (rcs r).toArray] w fun e w' => e = .returned (.bool (seqR r)) ∧ Below w.heap.size w w' := by
  obtain ⟨V, hV⟩ : ∃ V, V = w.alloc (.cells (rcs r).toArray 30) := ⟨_, rfl⟩
  have Q : Hid (Blk V w.heap.size (rcs r)) := by rw [hV]; exact blk_new w 30 (rcs r)
  have BV : Hid (Below w.heap.size w V) := by rw [hV]; exact (Below.refl _ _).alloc (Nat.le_refl _) _
  have hVs : w.heap.size ≤ V.heap.size := BV.out.size
  cases h0 : noopR r with
  | true =>
    have HQ : Hid (seqR r = (r.seq == 0)) := by simp [Hid, seqR, h0]
    go_enter Tryz.func54, Tryz.ntmps54
    go_wp2_with (first | (refine wpList_load_mid rfl 30 _ rfl w.heap.size 0 rfl (rcs r) _ (by first | exact Q.out.range | (rw [← hV]; exact Q.out.range)) Tryz.underlying30 rfl (by kernel_rfl) ?_))
    rw [← hV]
    clear hV
    refine (risNoop_any r _).mono ?_
    rintro e w1 ⟨rfl, hb1⟩
    have B1 : Hid (Below w.heap.size w w1) := BV.out.trans (hb1.mono hVs)
    have q14 : w1.cell? ⟨w.heap.size, 14, none⟩ = some (.int .i64 r.seq) := (Q.out.on hb1).cell 14 _ (rcs14 r)
    rw [h0]
    clear h0 hb1 Q BV hVs
    go_wp2
    go_ret
    exact ⟨by rw [HQ.out]; rfl, B1.out⟩
  | false =>
    by_cases h1 : 1 ≤ r.seq
    · by_cases h2 : r.seq ≤ 1073741824
      · have HQ : Hid (seqR r = true) := by simp [Hid, seqR, h0, h1, h2]
        go_enter Tryz.func54, Tryz.ntmps54
        go_wp2_with (first | (refine wpList_load_mid rfl 30 _ rfl w.heap.size 0 rfl (rcs r) _ (by first | exact Q.out.range | (rw [← hV]; exact Q.out.range)) Tryz.underlying30 rfl (by kernel_rfl) ?_))
        rw [← hV]
        clear hV
        refine (risNoop_any r _).mono ?_
        rintro e w1 ⟨rfl, hb1⟩
        have B1 : Hid (Below w.heap.size w w1) := BV.out.trans (hb1.mono hVs)
        have q14 : w1.cell? ⟨w.heap.size, 14, none⟩ = some (.int .i64 r.seq) := (Q.out.on hb1).cell 14 _ (rcs14 r)
        rw [h0]
        clear h0 hb1 Q BV hVs
        go_wp2
        go_ret
        exact ⟨by rw [HQ.out]; rfl, B1.out⟩
      · have HQ : Hid (seqR r = false) := by simp [Hid, seqR, h0, h2]
        have d2 : decide (r.seq ≤ 1073741824) = false := by simpa using h2
        go_enter Tryz.func54, Tryz.ntmps54
        go_wp2_with (first | (refine wpList_load_mid rfl 30 _ rfl w.heap.size 0 rfl (rcs r) _ (by first | exact Q.out.range | (rw [← hV]; exact Q.out.range)) Tryz.underlying30 rfl (by kernel_rfl) ?_))
        rw [← hV]
        clear hV
        refine (risNoop_any r _).mono ?_
        rintro e w1 ⟨rfl, hb1⟩
        have B1 : Hid (Below w.heap.size w w1) := BV.out.trans (hb1.mono hVs)
        have q14 : w1.cell? ⟨w.heap.size, 14, none⟩ = some (.int .i64 r.seq) := (Q.out.on hb1).cell 14 _ (rcs14 r)
        rw [h0]
        clear h0 hb1 Q BV hVs
        go_wp2
        go_ret
        exact ⟨by rw [HQ.out]; rfl, B1.out⟩
    · have HQ : Hid (seqR r = false) := by simp [Hid, seqR, h0, h1]
      go_enter Tryz.func54, Tryz.ntmps54
      go_wp2_with (first | (refine wpList_load_mid rfl 30 _ rfl w.heap.size 0 rfl (rcs r) _ (by first | exact Q.out.range | (rw [← hV]; exact Q.out.range)) Tryz.underlying30 rfl (by kernel_rfl) ?_))
      rw [← hV]
      clear hV
      refine (risNoop_any r _).mono ?_
      rintro e w1 ⟨rfl, hb1⟩
      have B1 : Hid (Below w.heap.size w w1) := BV.out.trans (hb1.mono hVs)
      have q14 : w1.cell? ⟨w.heap.size, 14, none⟩ = some (.int .i64 r.seq) := (Q.out.on hb1).cell 14 _ (rcs14 r)
      rw [h0]
      clear h0 hb1 Q BV hVs
      go_wp2
      go_ret
      exact ⟨by rw [HQ.out]; rfl, B1.out⟩
end Go.Proofs.YtlapgnbiflcpfaaGreatDoor
/- The contracts of what only reads a list of ints: isWidth, faultOf. -/
namespace Go.Proofs.YtlapgnbiflcpfaaGreatDoor
open Go.RowKit Go.Wire1

def okI (n : Int) : Bool := decide (1 ≤ n ∧ n ≤ 7)
theorem okI_yes {n : Int} (h : 1 ≤ n ∧ n ≤ 7) : okI n = true := decide_eq_true h
theorem okI_no {n : Int} (h : ¬ (1 ≤ n ∧ n ≤ 7)) : okI n = false := decide_eq_false h
theorem okI_nat (n : Nat) : okI (n : Int) = okW n := by unfold okI okW; congr 1; apply propext; omega

set_option maxRecDepth 100000 in
theorem isWidth_any (n : Int) (w : World) :
    Calls Tryz.prog 89 #[.int .i64 n] w fun e w' => e = .returned (.bool (okI n)) ∧ w = w' := by
  by_cases h1 : 1 ≤ n
  · by_cases h2 : n ≤ 7
    · have HQ : Hid (okI n = true) := okI_yes (by omega)
      go_enter Tryz.func89, Tryz.ntmps89
      go_wp2
      go_ret
      exact ⟨by rw [HQ.out]; rfl, rfl⟩
    · have HQ : Hid (okI n = false) := okI_no (by omega)
      go_enter Tryz.func89, Tryz.ntmps89
      go_wp2
      go_ret
      exact ⟨by rw [HQ.out]; rfl, rfl⟩
  · have HQ : Hid (okI n = false) := okI_no (by omega)
    go_enter Tryz.func89, Tryz.ntmps89
    go_wp2
    go_ret
    exact ⟨by rw [HQ.out]; rfl, rfl⟩

set_option maxHeartbeats 400000 in
set_option maxRecDepth 100000 in
theorem vfaultOf_any (a : Option Addr) (n cap : Nat) (l : List Int) (w : World) (h : SegI w a n l) :
    Calls Tryz.prog 85 #[.slice a n cap] w fun e w' => e = .returned (.int .i64 (fault l : Int)) ∧ w = w' := by
  obtain ⟨hn, hn', ha, -⟩ := h
  have HN : Hid (l.length = n) := hn
  unfold maxLen at hn'
  have HF : Hid (fault l = if okW n = true then (if okL l = true then 0 else 32) else 31) := by show _ = _; rw [← hn]; rfl
  clear hn
  go_enter Tryz.func85, Tryz.ntmps85
  go_wp2_with fail
  refine (isWidth_any (n : Int) _).mono ?_
  rintro e w' ⟨rfl, rfl⟩
  rw [okI_nat]
  cases hw : okW n with
  | false =>
    have HQ : Hid (fault l = 31) := by show _ = _; rw [HF.out, hw]; rfl
    clear HF hw
    go_wp2
    go_ret
    exact ⟨by rw [HQ.out]; rfl, rfl⟩
  | true =>
    have HQ : Hid (fault l = if okL l = true then 0 else 32) := by show _ = _; rw [HF.out, hw]; rfl
    clear HF hw
    go_wp2
    go_loop [11] (fun i => ∃ k : Nat, i = .int .i64 (k : Int) ∧ k ≤ n ∧ Hid (okL (l.take k) = true)) (fun i => n - (intOf i).toNat)
    case atStart => exact ⟨0, rfl, Nat.zero_le _, rfl⟩
    case round =>
      obtain ⟨k, rfl, hk, HT⟩ := hrel
      by_cases hlt : k < n
      · obtain ⟨ba, oa, rfl, hca⟩ := ha (by omega)
        have ca := hca k hlt
        clear ha hca
        by_cases h0 : l.getD k 0 < 0
        · have HS : Hid (fault l = 32) := by show _ = _; rw [HQ.out, okL_no (k := k) (by have := HN.out; omega) (by omega)]; rfl
          clear HQ
          generalize l.getD k 0 = c at *
          go_wp2
          go_ret
          exact ⟨by rw [HS.out]; rfl, rfl⟩
        · by_cases h1 : 1048576 < l.getD k 0
          · have HS : Hid (fault l = 32) := by show _ = _; rw [HQ.out, okL_no (k := k) (by have := HN.out; omega) (by omega)]; rfl
            clear HQ
            generalize l.getD k 0 = c at *
            go_wp2
            go_ret
            exact ⟨by rw [HS.out]; rfl, rfl⟩
          · have HT' : Hid (okL (l.take (k + 1)) = true) := okL_step (by have := HN.out; omega) HT.out (by omega)
            generalize l.getD k 0 = c at *
            go_wp2
            go_round
            case rel => exact ⟨k + 1, by go_num, by omega, HT'⟩
            case measure => simp [intOf]; omega
      · have HS : Hid (fault l = 0) := by show _ = _; have := HT.out; rw [List.take_of_length_le (by have := HN.out; omega)] at this; rw [HQ.out, this]; rfl
        go_wp2
        go_ret
        exact ⟨by rw [HS.out]; rfl, rfl⟩

end Go.Proofs.YtlapgnbiflcpfaaGreatDoor
/- A row of bytes of our own, at its block. -/
namespace Go.Proofs.YtlapgnbiflcpfaaGreatDoor
open Go.RowKit Go.Wire1

theorem own_below {w w' : World} {B : Nat} {e : TypeId} {s : Nat} {v : Value} {n : Nat} {xs : List Value} {C : Nat} (h : w.ownsRow B e s v n xs) (hb : Below C w w') (hC : w.heap.size ≤ C) : w'.ownsRow B e s v n xs := by
  refine ⟨h.1, ?_⟩
  rcases h.2 with h2 | ⟨g, cap, cur, rfl, hB, hh, r⟩
  · exact .inl h2
  · exact .inr ⟨g, cap, cur, rfl, hB, by rw [hb.block g (by have := (Array.getElem?_eq_some_iff.1 hh).1; omega)]; exact hh, r⟩

/-- A row of bytes of our own, at its block. -/
def Mine (w : World) (B g N cap : Nat) (L : List Int) : Prop := w.ownsRow B 5 1 (.slice (some ⟨g, 0, none⟩) N cap) N (L.map (Value.int .u8)) ∧ L.length = N ∧ N ≤ cap ∧ cap ≤ maxLen ∧ B ≤ g

theorem mine_of {w : World} {B : Nat} {v : Value} {L : List Int} (h : w.ownsRow B 5 1 v L.length (L.map (Value.int .u8))) (hl : 0 < L.length) : ∃ g cap, v = .slice (some ⟨g, 0, none⟩) L.length cap ∧ Mine w B g L.length cap L := by
  rcases h.2 with ⟨_, h2⟩ | ⟨g, cap, cur, rfl, hB, hh, h3, h4, h5, h6⟩
  · omega
  · exact ⟨g, cap, rfl, h, rfl, h3, h4, hB⟩
theorem Mine.below {w w' : World} {B g N cap C : Nat} {L : List Int} (h : Mine w B g N cap L) (hb : Below C w w') (hC : w.heap.size ≤ C) : Mine w' B g N cap L := ⟨own_below h.1 hb hC, h.2⟩
theorem Mine.drewN {w : World} {B g N cap : Nat} {L : List Int} (h : Mine w B g N cap L) (q : Nat) : Mine (w.drewN q) B g N cap L := h
theorem Mine.seg {w : World} {B g N cap : Nat} {L : List Int} (h : Mine w B g N cap L) : Seg w (some ⟨g, 0, none⟩) N L := by
  obtain ⟨h1, rfl, h3, h4, _⟩ := h
  refine ⟨rfl, by omega, fun _ => ⟨g, 0, rfl, fun j hj => ?_⟩⟩
  rw [Nat.zero_add, h1.cellAt j (by omega)]
  simp [List.getElem?_eq_getElem hj]
theorem Mine.store {w : World} {B g N cap : Nat} {L : List Int} (h : Mine w B g N cap L) (k : Nat) (z : Int) : Mine (w.setCell ⟨g, k, none⟩ (.int .u8 z)) B g N cap (L.set k z) := by
  obtain ⟨h1, h2, h3⟩ := h
  exact ⟨by rw [List.map_set]; exact (h1.stored k _).1, by rw [List.length_set]; exact h2, h3⟩
end Go.Proofs.YtlapgnbiflcpfaaGreatDoor
