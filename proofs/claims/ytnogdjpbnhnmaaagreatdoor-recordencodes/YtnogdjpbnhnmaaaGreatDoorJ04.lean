/- Texts of the proof, joined. -/
import Derived.Test.YtnogdjpbnhnmaaaGreatDoorRows
import Derived.Test.YtnogdjpbnhnmaaaGreatDoorJ02
import Derived.Test.YtnogdjpbnhnmaaaGreatDoorJ03
import Derived.WalkKit
import Derived.WalkLawsBesides
/- The contracts of package record's small predicates. -/
namespace Go.Proofs.YtnogdjpbnhnmaaaGreatDoor
open Go.RowKit Go.Wire1

theorem rcs0 (r : Rc) : (rcs r)[0]? = some (.int .i64 r.kind) := rfl
theorem rcs1 (r : Rc) : (rcs r)[1]? = some (.int .i64 r.row) := rfl
theorem rcs2 (r : Rc) : (rcs r)[2]? = some (.int .i64 r.num) := rfl
theorem rcs3 (r : Rc) : (rcs r)[3]? = some (.int .i64 r.round) := rfl
theorem rcs4 (r : Rc) : (rcs r)[4]? = some (.int .i64 r.who) := rfl
theorem rcs5 (r : Rc) : (rcs r)[5]? = some (.bool r.same) := rfl
theorem rcs6 (r : Rc) : (rcs r)[6]? = some (.int .i64 r.c.kind) := rfl
theorem rcs7 (r : Rc) : (rcs r)[7]? = some (.int .i64 r.c.client) := rfl
theorem rcs8 (r : Rc) : (rcs r)[8]? = some (.int .i64 r.c.req) := rfl
theorem rcs9 (r : Rc) : (rcs r)[9]? = some (.string r.c.key) := rfl
theorem rcs10 (r : Rc) : (rcs r)[10]? = some (.string r.c.key2) := rfl
theorem rcs11 (r : Rc) : (rcs r)[11]? = some (.string r.c.val) := rfl
theorem rcs12 (r : Rc) : (rcs r)[12]? = some (.string r.c.old) := rfl
theorem rcs13 (r : Rc) : (rcs r)[13]? = some (.int .i64 r.c.n) := rfl
theorem rcs14 (r : Rc) : (rcs r)[14]? = some (.int .i64 r.seq) := rfl
theorem rcs15 (r : Rc) : (rcs r)[15]? = some (.slice r.da r.dn r.dc) := rfl
theorem rcs16 (r : Rc) : (rcs r)[16]? = some (.int .i64 r.id) := rfl
theorem rcs17 (r : Rc) : (rcs r)[17]? = some (.int .i64 r.n) := rfl
theorem rcs_len (r : Rc) : (rcs r).length = 18 := rfl
set_option maxHeartbeats 1000000 in
set_option maxRecDepth 100000 in
theorem risSize_any (n : Int) (w : World) :
    Calls Tryz.prog 15 #[.int .i64 n] w fun e w' => e = .returned (.bool (isSizeB n)) ∧ w = w' := by
  by_cases h0 : 1 ≤ n
  · by_cases h1 : n ≤ 7
    · have HQ : Hid (isSizeB n = true) := by simp [Hid, isSizeB, h0, h1]
      go_enter Tryz.func15, Tryz.ntmps15
      go_wp2
      go_ret
      exact ⟨by rw [HQ.out]; rfl, rfl⟩
    · have HQ : Hid (isSizeB n = false) := by simp [Hid, isSizeB, h0, h1]
      go_enter Tryz.func15, Tryz.ntmps15
      go_wp2
      go_ret
      exact ⟨by rw [HQ.out]; rfl, rfl⟩
  · have HQ : Hid (isSizeB n = false) := by simp [Hid, isSizeB, h0]
    go_enter Tryz.func15, Tryz.ntmps15
    go_wp2
    go_ret
    exact ⟨by rw [HQ.out]; rfl, rfl⟩
set_option maxHeartbeats 1000000 in
set_option maxRecDepth 100000 in
theorem risKind_any (n : Int) (w : World) :
    Calls Tryz.prog 35 #[.int .i64 n] w fun e w' => e = .returned (.bool (isKindR n)) ∧ w = w' := by
  by_cases h0 : 0 < n
  · by_cases h1 : n < 6
    · have HQ : Hid (isKindR n = true) := by simp [Hid, isKindR, h0, h1]
      go_enter Tryz.func35, Tryz.ntmps35
      go_wp2
      go_ret
      exact ⟨by rw [HQ.out]; rfl, rfl⟩
    · have HQ : Hid (isKindR n = false) := by simp [Hid, isKindR, h0, h1]
      go_enter Tryz.func35, Tryz.ntmps35
      go_wp2
      go_ret
      exact ⟨by rw [HQ.out]; rfl, rfl⟩
  · have HQ : Hid (isKindR n = false) := by simp [Hid, isKindR, h0]
    go_enter Tryz.func35, Tryz.ntmps35
    go_wp2
    go_ret
    exact ⟨by rw [HQ.out]; rfl, rfl⟩
set_option maxHeartbeats 1000000 in
set_option maxRecDepth 100000 in
theorem runless_any (b : Bool) (e : Nat) (w : World) :
    Calls Tryz.prog 37 #[.bool b, .int .i64 (e : Int)] w fun r w' => r = .returned (.int .i64 (unlR b e : Nat)) ∧ w = w' := by
  cases b <;>
  · go_enter Tryz.func37, Tryz.ntmps37
    go_wp2
    go_ret
    exact ⟨rfl, rfl⟩
set_option maxHeartbeats 1000000 in
set_option maxRecDepth 100000 in
theorem risInst_any (n row num : Int) (w : World) :
    Calls Tryz.prog 74 #[.int .i64 n, .agg #[.int .i64 row, .int .i64 num]] w fun e w' => e = .returned (.bool (rinstB n row num)) ∧ Below w.heap.size w w' := by
  by_cases h0 : 0 ≤ row
  · by_cases h1 : row < n
    · by_cases h2 : 1 ≤ num
      · by_cases h3 : num ≤ 1048576
        · have HQ : Hid (rinstB n row num = true) := by simp [Hid, rinstB, h0, h1, h2, h3]
          go_enter Tryz.func74, Tryz.ntmps74
          go_wp2
          go_ret
          exact ⟨by rw [HQ.out]; rfl, (Below.refl _ _).alloc (Nat.le_refl _) _⟩
        · have HQ : Hid (rinstB n row num = false) := by simp [Hid, rinstB, h0, h1, h2, h3]
          go_enter Tryz.func74, Tryz.ntmps74
          go_wp2
          go_ret
          exact ⟨by rw [HQ.out]; rfl, (Below.refl _ _).alloc (Nat.le_refl _) _⟩
      · have HQ : Hid (rinstB n row num = false) := by simp [Hid, rinstB, h0, h1, h2]
        go_enter Tryz.func74, Tryz.ntmps74
        go_wp2
        go_ret
        exact ⟨by rw [HQ.out]; rfl, (Below.refl _ _).alloc (Nat.le_refl _) _⟩
    · have HQ : Hid (rinstB n row num = false) := by simp [Hid, rinstB, h0, h1]
      go_enter Tryz.func74, Tryz.ntmps74
      go_wp2
      go_ret
      exact ⟨by rw [HQ.out]; rfl, (Below.refl _ _).alloc (Nat.le_refl _) _⟩
  · have HQ : Hid (rinstB n row num = false) := by simp [Hid, rinstB, h0]
    go_enter Tryz.func74, Tryz.ntmps74
    go_wp2
    go_ret
    exact ⟨by rw [HQ.out]; rfl, (Below.refl _ _).alloc (Nat.le_refl _) _⟩
set_option maxHeartbeats 1000000 in
set_option maxRecDepth 100000 in
theorem risNoop_any (r : Rc) (w : World) :
    Calls Tryz.prog 79 #[.agg (rcs r).toArray] w fun e w' => e = .returned (.bool (noopR r)) ∧ Below w.heap.size w w' := by
  have g6 := rcs6 r
  go_enter Tryz.func79, Tryz.ntmps79
  go_wp2
  go_ret
  exact ⟨rfl, (Below.refl _ _).alloc (Nat.le_refl _) _⟩
set_option maxHeartbeats 1000000 in
set_option maxRecDepth 100000 in
theorem rmayNoop_any (r : Rc) (w : World) :
    Calls Tryz.prog 78 #[.agg (rcs r).toArray] w fun e w' => e = .returned (.bool (mayR r)) ∧ Below w.heap.size w w' := by
  have g0 := rcs0 r
  go_enter Tryz.func78, Tryz.ntmps78
  go_wp2
  go_ret
  exact ⟨rfl, (Below.refl _ _).alloc (Nat.le_refl _) _⟩
set_option maxHeartbeats 1000000 in
set_option maxRecDepth 100000 in
theorem risHead_any (r : Rc) (w : World) :
    Calls Tryz.prog 73 #[.agg (rcs r).toArray] w fun e w' => e = .returned (.bool (headB r)) ∧ Below w.heap.size w w' := by
  have g16 := rcs16 r
  have g17 := rcs17 r
  cases h0 : isSizeB r.n with
  | false =>
    have HQ : Hid (headB r = false) := by simp [Hid, headB, h0]
    go_enter Tryz.func73, Tryz.ntmps73
    go_wp2_with fail
    refine (risSize_any _ _).mono ?_
    rintro e w' ⟨rfl, rfl⟩
    rw [h0]
    clear h0
    go_wp2
    go_ret
    exact ⟨by rw [HQ.out]; rfl, (Below.refl _ _).alloc (Nat.le_refl _) _⟩
  | true =>
    by_cases h1 : 0 ≤ r.id
    · by_cases h2 : r.id < r.n
      · have HQ : Hid (headB r = true) := by simp [Hid, headB, h0, h1, h2]
        go_enter Tryz.func73, Tryz.ntmps73
        go_wp2_with fail
        refine (risSize_any _ _).mono ?_
        rintro e w' ⟨rfl, rfl⟩
        rw [h0]
        clear h0
        go_wp2
        go_ret
        exact ⟨by rw [HQ.out]; rfl, (Below.refl _ _).alloc (Nat.le_refl _) _⟩
      · have HQ : Hid (headB r = false) := by simp [Hid, headB, h2]
        have d2 : decide (r.id < r.n) = false := by simpa using h2
        go_enter Tryz.func73, Tryz.ntmps73
        go_wp2_with fail
        refine (risSize_any _ _).mono ?_
        rintro e w' ⟨rfl, rfl⟩
        rw [h0]
        clear h0
        go_wp2
        go_ret
        exact ⟨by rw [HQ.out]; rfl, (Below.refl _ _).alloc (Nat.le_refl _) _⟩
    · have HQ : Hid (headB r = false) := by simp [Hid, headB, h1]
      go_enter Tryz.func73, Tryz.ntmps73
      go_wp2_with fail
      refine (risSize_any _ _).mono ?_
      rintro e w' ⟨rfl, rfl⟩
      rw [h0]
      clear h0
      go_wp2
      go_ret
      exact ⟨by rw [HQ.out]; rfl, (Below.refl _ _).alloc (Nat.le_refl _) _⟩
set_option maxHeartbeats 1000000 in
set_option maxRecDepth 100000 in
theorem risBallot_any (n : Int) (r : Rc) (w : World) :
    Calls Tryz.prog 75 #[.int .i64 n, .agg (rcs r).toArray] w fun e w' => e = .returned (.bool (balR n r)) ∧ Below w.heap.size w w' := by
  have g0 := rcs0 r
  have g1 := rcs1 r
  have g3 := rcs3 r
  have g4 := rcs4 r
  by_cases hz : r.round = 0
  · have z0 : (r.round == 0) = true := by simpa using hz
    by_cases h1 : r.who = r.row
    · have z1 : (r.who == r.row) = true := by simpa using h1
      by_cases h2 : r.kind = 2
      · have z2 : (r.kind != 2) = false := by simp [h2]
        have HQ : Hid (balR n r = false) := by simp [Hid, balR, hz, h2]
        clear hz h1 h2
        go_enter Tryz.func75, Tryz.ntmps75
        go_wp2
        go_ret
        exact ⟨by rw [HQ.out]; rfl, (((Below.refl _ w).alloc (Nat.le_refl _) _).alloc (by simp) _)⟩
      · have z2 : (r.kind != 2) = true := by simpa using h2
        have HQ : Hid (balR n r = true) := by simp [Hid, balR, hz, h1, z2]
        clear hz h1 h2
        go_enter Tryz.func75, Tryz.ntmps75
        go_wp2
        go_ret
        exact ⟨by rw [HQ.out]; rfl, (((Below.refl _ w).alloc (Nat.le_refl _) _).alloc (by simp) _)⟩
    · have z1 : (r.who == r.row) = false := by simpa using h1
      have HQ : Hid (balR n r = false) := by simp [Hid, balR, hz, h1]
      clear hz h1
      go_enter Tryz.func75, Tryz.ntmps75
      go_wp2
      go_ret
      exact ⟨by rw [HQ.out]; rfl, (((Below.refl _ w).alloc (Nat.le_refl _) _).alloc (by simp) _)⟩
  · have z0 : (r.round == 0) = false := by simpa using hz
    by_cases h0 : 1 ≤ r.round
    · by_cases h1 : r.round ≤ 65535
      · by_cases h2 : 0 ≤ r.who
        · by_cases h3 : r.who < n
          · have HQ : Hid (balR n r = true) := by simp [Hid, balR, hz, h0, h1, h2, h3]
            clear hz
            go_enter Tryz.func75, Tryz.ntmps75
            go_wp2
            go_ret
            exact ⟨by rw [HQ.out]; rfl, (((Below.refl _ w).alloc (Nat.le_refl _) _).alloc (by simp) _)⟩
          · have HQ : Hid (balR n r = false) := by simp [Hid, balR, hz, h0, h1, h2, h3]
            clear hz
            go_enter Tryz.func75, Tryz.ntmps75
            go_wp2
            go_ret
            exact ⟨by rw [HQ.out]; rfl, (((Below.refl _ w).alloc (Nat.le_refl _) _).alloc (by simp) _)⟩
        · have HQ : Hid (balR n r = false) := by simp [Hid, balR, hz, h0, h1, h2]
          clear hz
          go_enter Tryz.func75, Tryz.ntmps75
          go_wp2
          go_ret
          exact ⟨by rw [HQ.out]; rfl, (((Below.refl _ w).alloc (Nat.le_refl _) _).alloc (by simp) _)⟩
      · have HQ : Hid (balR n r = false) := by simp [Hid, balR, hz, h0, h1]
        clear hz
        go_enter Tryz.func75, Tryz.ntmps75
        go_wp2
        go_ret
        exact ⟨by rw [HQ.out]; rfl, (((Below.refl _ w).alloc (Nat.le_refl _) _).alloc (by simp) _)⟩
    · have HQ : Hid (balR n r = false) := by simp [Hid, balR, hz, h0]
      clear hz
      go_enter Tryz.func75, Tryz.ntmps75
      go_wp2
      go_ret
      exact ⟨by rw [HQ.out]; rfl, (((Below.refl _ w).alloc (Nat.le_refl _) _).alloc (by simp) _)⟩
set_option maxHeartbeats 1000000 in
set_option maxRecDepth 100000 in
theorem risSeq_any (r : Rc) (w : World) :
    Calls Tryz.prog 80 #[.agg (rcs r).toArray] w fun e w' => e = .returned (.bool (seqR r)) ∧ Below w.heap.size w w' := by
  obtain ⟨V, hV⟩ : ∃ V, V = w.alloc (.cells (rcs r).toArray 31) := ⟨_, rfl⟩
  have Q : Hid (Blk V w.heap.size (rcs r)) := by rw [hV]; exact blk_new w 31 (rcs r)
  have BV : Hid (Below w.heap.size w V) := by rw [hV]; exact (Below.refl _ _).alloc (Nat.le_refl _) _
  have hVs : w.heap.size ≤ V.heap.size := BV.out.size
  cases h0 : noopR r with
  | true =>
    have HQ : Hid (seqR r = (r.seq == 0)) := by simp [Hid, seqR, h0]
    go_enter Tryz.func80, Tryz.ntmps80
    go_wp2_with (first | (refine wpList_load_mid rfl 31 _ rfl w.heap.size 0 rfl (rcs r) _ (by first | exact Q.out.range | (rw [← hV]; exact Q.out.range)) Tryz.underlying31 rfl (by kernel_rfl) ?_))
    rw [← hV]
    clear hV
    refine (risNoop_any r _).mono ?_
    rintro e w1 ⟨rfl, hb1⟩
    have B1 : Hid (Below w.heap.size w w1) := BV.out.trans (hb1.mono hVs)
    have q14 : w1.cell? ⟨w.heap.size, 14, none⟩ = some (.int .i64 r.seq) := (Q.out.on hb1).cell 14 _ (rcs14 r)
    rw [h0]
    clear h0 hb1 Q BV hVs
    go_wp2
    go_ret
    exact ⟨by rw [HQ.out]; rfl, B1.out⟩
  | false =>
    by_cases h1 : 1 ≤ r.seq
    · by_cases h2 : r.seq ≤ 1073741824
      · have HQ : Hid (seqR r = true) := by simp [Hid, seqR, h0, h1, h2]
        go_enter Tryz.func80, Tryz.ntmps80
        go_wp2_with (first | (refine wpList_load_mid rfl 31 _ rfl w.heap.size 0 rfl (rcs r) _ (by first | exact Q.out.range | (rw [← hV]; exact Q.out.range)) Tryz.underlying31 rfl (by kernel_rfl) ?_))
        rw [← hV]
        clear hV
        refine (risNoop_any r _).mono ?_
        rintro e w1 ⟨rfl, hb1⟩
        have B1 : Hid (Below w.heap.size w w1) := BV.out.trans (hb1.mono hVs)
        have q14 : w1.cell? ⟨w.heap.size, 14, none⟩ = some (.int .i64 r.seq) := (Q.out.on hb1).cell 14 _ (rcs14 r)
        rw [h0]
        clear h0 hb1 Q BV hVs
        go_wp2
        go_ret
        exact ⟨by rw [HQ.out]; rfl, B1.out⟩
      · have HQ : Hid (seqR r = false) := by simp [Hid, seqR, h0, h2]
        have d2 : decide (r.seq ≤ 1073741824) = false := by simpa using h2
        go_enter Tryz.func80, Tryz.ntmps80
        go_wp2_with (first | (refine wpList_load_mid rfl 31 _ rfl w.heap.size 0 rfl (rcs r) _ (by first | exact Q.out.range | (rw [← hV]; exact Q.out.range)) Tryz.underlying31 rfl (by kernel_rfl) ?_))
        rw [← hV]
        clear hV
        refine (risNoop_any r _).mono ?_
        rintro e w1 ⟨rfl, hb1⟩
        have B1 : Hid (Below w.heap.size w w1) := BV.out.trans (hb1.mono hVs)
        have q14 : w1.cell? ⟨w.heap.size, 14, none⟩ = some (.int .i64 r.seq) := (Q.out.on hb1).cell 14 _ (rcs14 r)
        rw [h0]
        clear h0 hb1 Q BV hVs
        go_wp2
        go_ret
        exact ⟨by rw [HQ.out]; rfl, B1.out⟩
    · have HQ : Hid (seqR r = false) := by simp [Hid, seqR, h0, h1]
      go_enter Tryz.func80, Tryz.ntmps80
      go_wp2_with (first | (refine wpList_load_mid rfl 31 _ rfl w.heap.size 0 rfl (rcs r) _ (by first | exact Q.out.range | (rw [← hV]; exact Q.out.range)) Tryz.underlying31 rfl (by kernel_rfl) ?_))
      rw [← hV]
      clear hV
      refine (risNoop_any r _).mono ?_
      rintro e w1 ⟨rfl, hb1⟩
      have B1 : Hid (Below w.heap.size w w1) := BV.out.trans (hb1.mono hVs)
      have q14 : w1.cell? ⟨w.heap.size, 14, none⟩ = some (.int .i64 r.seq) := (Q.out.on hb1).cell 14 _ (rcs14 r)
      rw [h0]
      clear h0 hb1 Q BV hVs
      go_wp2
      go_ret
      exact ⟨by rw [HQ.out]; rfl, B1.out⟩
end Go.Proofs.YtnogdjpbnhnmaaaGreatDoor
