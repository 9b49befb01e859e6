/- The contracts of package command's reads, writes and Touches: a new list of ranges. -/
import Derived.Test.YtahaecnopeffhaaRows
import Derived.Test.YtahaecnopeffhaaTMath
import Derived.WalkKit
import Derived.WalkLawsBesides
import Derived.Deep.RegionHeld3
namespace Go.Proofs.Ytahaecnopeffhaa
open Go.RowKit Go.Wire1

set_option maxHeartbeats 400000 in
set_option maxRecDepth 100000 in
theorem reads_any (k : ByteArray) (w : World) (hk : k.size ≤ 140737488351232) :
    Calls Try.prog 16 #[.string k] w fun e w' => e = .returned (.agg #[.string k, .string (tnext k), .bool false]) ∧ Below w.heap.size w w' := by
  have hadd : ∀ V : World, (Op.stringOp .add k ⟨#[0]⟩).run Try.prog V = .ok (.string (k ++ ⟨#[0]⟩)) V := fun V => run_string_add_sum V k _ (by show k.size + 1 ≤ _; omega)
  go_enter Try.func16, Try.ntmps16
  go_wp2
  refine bodyPost_ret (v := .agg #[.string k, .string (tnext k), .bool false]) (by simp [results, Try.results16, go_sem]; rfl) rfl ⟨rfl, ?_⟩
  exact (Below.refl _ _).alloc (Nat.le_refl _) _

set_option maxHeartbeats 400000 in
set_option maxRecDepth 100000 in
theorem writes_any (k : ByteArray) (w : World) (hk : k.size ≤ 140737488351232) :
    Calls Try.prog 17 #[.string k] w fun e w' => e = .returned (.agg #[.string k, .string (tnext k), .bool true]) ∧ Below w.heap.size w w' := by
  go_enter Try.func17, Try.ntmps17
  go_wp2_with fail
  refine (reads_any k _ hk).mono ?_
  rintro e w1 ⟨rfl, hb⟩
  have hs := hb.size
  have hlt : w.heap.size < w1.heap.size := by simp at hs; omega
  have B1 : Below w.heap.size w w1 := ((Below.refl _ _).alloc (Nat.le_refl _) _).trans (hb.mono (by simp))
  have c0 : w1.cell? ⟨w.heap.size, 0, none⟩ = some (.string ⟨#[]⟩) := by rw [hb.cell (by simp)]; simp [go_sem]
  have c1 : w1.cell? ⟨w.heap.size, 1, none⟩ = some (.string ⟨#[]⟩) := by rw [hb.cell (by simp)]; simp [go_sem]
  have c2 : w1.cell? ⟨w.heap.size, 2, none⟩ = some (.bool false) := by rw [hb.cell (by simp)]; simp [go_sem]
  have f0 : w1.frozen? ⟨w.heap.size, 0, none⟩ = false := by rw [hb.frozen (by simp)]; simp [go_sem]
  have f1 : w1.frozen? ⟨w.heap.size, 1, none⟩ = false := by rw [hb.frozen (by simp)]; simp [go_sem]
  have f2 : w1.frozen? ⟨w.heap.size, 2, none⟩ = false := by rw [hb.frozen (by simp)]; simp [go_sem]
  have HB := hide B1
  clear hb hs B1
  go_wp2
  obtain ⟨V, hV⟩ : ∃ V, V = ((w1.setCell ⟨w.heap.size, 0, none⟩ (.string k)).setCell ⟨w.heap.size, 1, none⟩ (.string (tnext k))).setCell ⟨w.heap.size, 2, none⟩ (.bool true) := ⟨_, rfl⟩
  rw [← hV]
  have hVs : V.heap.size = w1.heap.size := by rw [hV]; simp
  have hin : w.heap.size < V.heap.size := by omega
  have A1 : ∀ o, (V.alloc (.cells #[.string k, .string (tnext k), .bool true] 31)).cell? ⟨w.heap.size, o, none⟩ = V.cell? ⟨w.heap.size, o, none⟩ := fun o => ((Below.refl V.heap.size V).alloc (Nat.le_refl _) _).cell (p := ⟨w.heap.size, o, none⟩) hin
  have d0 := A1 0
  have d1 := A1 1
  have d2 := A1 2
  rw [hV] at d0 d1 d2
  rw [show (((w1.setCell ⟨w.heap.size, 0, none⟩ (.string k)).setCell ⟨w.heap.size, 1, none⟩ (.string (tnext k))).setCell ⟨w.heap.size, 2, none⟩ (.bool true)).cell? ⟨w.heap.size, 0, none⟩ = some (.string k) by simp [go_sem, c0]] at d0
  rw [show (((w1.setCell ⟨w.heap.size, 0, none⟩ (.string k)).setCell ⟨w.heap.size, 1, none⟩ (.string (tnext k))).setCell ⟨w.heap.size, 2, none⟩ (.bool true)).cell? ⟨w.heap.size, 1, none⟩ = some (.string (tnext k)) by simp [go_sem, c1]] at d1
  rw [show (((w1.setCell ⟨w.heap.size, 0, none⟩ (.string k)).setCell ⟨w.heap.size, 1, none⟩ (.string (tnext k))).setCell ⟨w.heap.size, 2, none⟩ (.bool true)).cell? ⟨w.heap.size, 2, none⟩ = some (.bool true) by simp [go_sem, c2]] at d2
  rw [← hV] at d0 d1 d2
  refine bodyPost_ret (v := .agg #[.string k, .string (tnext k), .bool true]) (by simp [results, Try.results17, go_sem, d0, d1, d2]) rfl ⟨rfl, ?_⟩
  rw [hV]
  exact (((HB.out.setCell (Nat.le_refl _) _).setCell (Nat.le_refl _) _).setCell (Nat.le_refl _) _).alloc (by simp; omega) _

def tcells (t : Tch) : List Value := [.string t.k, .string t.e, .bool t.w]
/-- A new row of ranges of our own. -/
def Tchs (w : World) (B : Nat) (v : Value) (L : List Tch) : Prop := w.ownsRow B 31 3 v L.length (L.flatMap tcells)

theorem tchs_new (w : World) (B : Nat) (hB : B ≤ w.heap.size) (L : List Tch) (cs : Array Value) (n : Nat) (hn : L.length = n) (hc : cs.toList = L.flatMap tcells) (hl : n ≤ maxLen) : Tchs (w.alloc (.cells cs 31)) B (.slice (some ⟨w.heap.size, 0, none⟩) n n) L := by
  have hlen : (L.flatMap tcells).length = L.length * 3 := by
    clear hn hc
    induction L with
    | nil => rfl
    | cons t r ih => rw [List.flatMap_cons, List.length_append, ih]; simp [tcells]; omega
  have hsz : cs.size = L.length * 3 := by rw [← hlen, ← hc, Array.length_toList]
  refine ⟨hlen, .inr ⟨w.heap.size, n, cs, by rw [hn], hB, heap_alloc_new w _, by omega, hl, by rw [hsz, hn], ?_⟩⟩
  rw [← hc, List.take_of_length_le (by rw [Array.length_toList, hsz]; exact Nat.le_refl _)]

set_option maxHeartbeats 2000000 in
set_option maxRecDepth 100000 in
theorem touches_any (kind client req : Int) (key key2 val old : ByteArray) (n : Int) (w : World) (hk : key.size ≤ 140737488351232) (hk2 : key2.size ≤ 140737488351232) :
    Calls Try.prog 10 #[.agg #[.int .i64 kind, .int .i64 client, .int .i64 req, .string key, .string key2, .string val, .string old, .int .i64 n]] w fun e w' => ∃ v, e = .returned v ∧ Tchs w' w.heap.size v (touchL kind key key2) ∧ Below w.heap.size w w' := by
  by_cases h1 : kind = 1
  · subst h1
    go_enter Try.func10, Try.ntmps10
    go_wp2_with fail
    refine (reads_any key _ hk).mono ?_
    rintro e w1 ⟨rfl, hb⟩
    have hs := hb.size
    have hle : w.heap.size ≤ w1.heap.size := by simp at hs; omega
    have B1 : Hid (Below w.heap.size w w1) := ((Below.refl _ _).alloc (Nat.le_refl _) _).trans (hb.mono (by simp))
    clear hb hs
    go_wp2
    go_ret
    exact ⟨_, rfl, tchs_new w1 _ hle _ _ 1 rfl rfl (by unfold maxLen; omega), B1.out.alloc hle _⟩
  by_cases h2 : kind = 2
  · subst h2
    go_enter Try.func10, Try.ntmps10
    go_wp2_with fail
    refine (writes_any key _ hk).mono ?_
    rintro e w1 ⟨rfl, hb⟩
    have hs := hb.size
    have hle : w.heap.size ≤ w1.heap.size := by simp at hs; omega
    have B1 : Hid (Below w.heap.size w w1) := ((Below.refl _ _).alloc (Nat.le_refl _) _).trans (hb.mono (by simp))
    clear hb hs
    go_wp2
    go_ret
    exact ⟨_, rfl, tchs_new w1 _ hle _ _ 1 rfl rfl (by unfold maxLen; omega), B1.out.alloc hle _⟩
  by_cases h3 : kind = 3
  · subst h3
    go_enter Try.func10, Try.ntmps10
    go_wp2_with fail
    refine (writes_any key _ hk).mono ?_
    rintro e w1 ⟨rfl, hb⟩
    have hs := hb.size
    have hle : w.heap.size ≤ w1.heap.size := by simp at hs; omega
    have B1 : Hid (Below w.heap.size w w1) := ((Below.refl _ _).alloc (Nat.le_refl _) _).trans (hb.mono (by simp))
    clear hb hs
    go_wp2
    go_ret
    exact ⟨_, rfl, tchs_new w1 _ hle _ _ 1 rfl rfl (by unfold maxLen; omega), B1.out.alloc hle _⟩
  by_cases h4 : kind = 4
  · subst h4
    go_enter Try.func10, Try.ntmps10
    go_wp2_with fail
    refine (writes_any key _ hk).mono ?_
    rintro e w1 ⟨rfl, hb⟩
    have hs := hb.size
    have hle : w.heap.size ≤ w1.heap.size := by simp at hs; omega
    have B1 : Hid (Below w.heap.size w w1) := ((Below.refl _ _).alloc (Nat.le_refl _) _).trans (hb.mono (by simp))
    clear hb hs
    go_wp2
    go_ret
    exact ⟨_, rfl, tchs_new w1 _ hle _ _ 1 rfl rfl (by unfold maxLen; omega), B1.out.alloc hle _⟩
  by_cases h5 : kind = 5
  · subst h5
    go_enter Try.func10, Try.ntmps10
    go_wp2_with fail
    refine (writes_any key _ hk).mono ?_
    rintro e w1 ⟨rfl, hb⟩
    have hs := hb.size
    have hle : w.heap.size ≤ w1.heap.size := by simp at hs; omega
    have B1 : Hid (Below w.heap.size w w1) := ((Below.refl _ _).alloc (Nat.le_refl _) _).trans (hb.mono (by simp))
    clear hb hs
    go_wp2
    go_ret
    exact ⟨_, rfl, tchs_new w1 _ hle _ _ 1 rfl rfl (by unfold maxLen; omega), B1.out.alloc hle _⟩
  by_cases h6 : kind = 6
  · subst h6
    go_enter Try.func10, Try.ntmps10
    go_wp2
    obtain ⟨V, hV⟩ : ∃ V, V = w.alloc (.cells #[.int .i64 6, .int .i64 client, .int .i64 req, .string key, .string key2, .string val, .string old, .int .i64 n] 23) := ⟨_, rfl⟩
    have c3 : V.cell? ⟨w.heap.size, 3, none⟩ = some (.string key) := by rw [hV]; simp [go_sem]
    have c4 : V.cell? ⟨w.heap.size, 4, none⟩ = some (.string key2) := by rw [hV]; simp [go_sem]
    have hVs : Hid (V.heap.size = w.heap.size + 1) := by rw [hV]; exact hide (by simp)
    have BV : Hid (Below w.heap.size w V) := by rw [hV]; exact (Below.refl _ _).alloc (Nat.le_refl _) _
    rw [← hV]
    clear hV
    go_region_held3 (fun w' => w'.cell? ⟨w.heap.size, 3, none⟩ = some (.string key) ∧ w'.cell? ⟨w.heap.size, 4, none⟩ = some (.string key2)) (first | go_keep | (exact ⟨by rw [hbB.cell hin]; exact kA3, by rw [hbB.cell hin]; exact kA4⟩) | (exact ⟨kA3, kA4⟩)) (first | (go_at_call 17; refine (writes_any key _ hk).mono ?_; rintro e wA ⟨rfl, hbA⟩; have hin : w.heap.size < wA.heap.size := (by have := hbA.size; have := hVs.out; simp at *; omega); have kA3 : wA.cell? ⟨w.heap.size, 3, none⟩ = some (.string key) := (by rw [hbA.cell (show w.heap.size < V.heap.size from cell_lt c3)]; exact c3); have kA4 : wA.cell? ⟨w.heap.size, 4, none⟩ = some (.string key2) := (by rw [hbA.cell (show w.heap.size < V.heap.size from cell_lt c4)]; exact c4)) | (go_at_call 17; refine (writes_any key2 _ hk2).mono ?_; rintro e wB ⟨rfl, hbB⟩))
    have hB : wA.heap.size ≤ wB.heap.size := hbB.size
    have hle : w.heap.size ≤ wB.heap.size := by omega
    have BB : Hid (Below w.heap.size w wB) := (BV.out.drew.trans (hbA.mono (show w.heap.size ≤ V.heap.size by have := hVs.out; omega))).trans (hbB.mono (by omega))
    clear hbA hbB kA3 kA4 c3 c4
    go_wp2
    go_ret
    exact ⟨_, rfl, tchs_new wB _ hle _ _ 2 rfl rfl (by unfold maxLen; omega), BB.out.alloc hle _⟩
  by_cases h7 : kind = 7
  · subst h7
    go_enter Try.func10, Try.ntmps10
    go_wp2
    obtain ⟨V, hV⟩ : ∃ V, V = w.alloc (.cells #[.int .i64 7, .int .i64 client, .int .i64 req, .string key, .string key2, .string val, .string old, .int .i64 n] 23) := ⟨_, rfl⟩
    have c3 : V.cell? ⟨w.heap.size, 3, none⟩ = some (.string key) := by rw [hV]; simp [go_sem]
    have c4 : V.cell? ⟨w.heap.size, 4, none⟩ = some (.string key2) := by rw [hV]; simp [go_sem]
    have hVs : Hid (V.heap.size = w.heap.size + 1) := by rw [hV]; exact hide (by simp)
    have BV : Hid (Below w.heap.size w V) := by rw [hV]; exact (Below.refl _ _).alloc (Nat.le_refl _) _
    rw [← hV]
    clear hV
    go_region_held3 (fun w' => w'.cell? ⟨w.heap.size, 3, none⟩ = some (.string key) ∧ w'.cell? ⟨w.heap.size, 4, none⟩ = some (.string key2)) (first | go_keep | (exact ⟨by rw [hbB.cell hin]; exact kA3, by rw [hbB.cell hin]; exact kA4⟩) | (exact ⟨kA3, kA4⟩)) (first | (go_at_call 16; refine (reads_any key _ hk).mono ?_; rintro e wA ⟨rfl, hbA⟩; have hin : w.heap.size < wA.heap.size := (by have := hbA.size; have := hVs.out; simp at *; omega); have kA3 : wA.cell? ⟨w.heap.size, 3, none⟩ = some (.string key) := (by rw [hbA.cell (show w.heap.size < V.heap.size from cell_lt c3)]; exact c3); have kA4 : wA.cell? ⟨w.heap.size, 4, none⟩ = some (.string key2) := (by rw [hbA.cell (show w.heap.size < V.heap.size from cell_lt c4)]; exact c4)) | (go_at_call 17; refine (writes_any key2 _ hk2).mono ?_; rintro e wB ⟨rfl, hbB⟩))
    have hB : wA.heap.size ≤ wB.heap.size := hbB.size
    have hle : w.heap.size ≤ wB.heap.size := by omega
    have BB : Hid (Below w.heap.size w wB) := (BV.out.drew.trans (hbA.mono (show w.heap.size ≤ V.heap.size by have := hVs.out; omega))).trans (hbB.mono (by omega))
    clear hbA hbB kA3 kA4 c3 c4
    go_wp2
    go_ret
    exact ⟨_, rfl, tchs_new wB _ hle _ _ 2 rfl rfl (by unfold maxLen; omega), BB.out.alloc hle _⟩
  by_cases h8 : kind = 8
  · subst h8
    cases hlt : Op.bytesLess key.toList key2.toList with
    | true =>
      go_enter Try.func10, Try.ntmps10
      go_wp2
      go_ret
      obtain ⟨V, hV⟩ : ∃ V, V = w.alloc (.cells #[.int .i64 8, .int .i64 client, .int .i64 req, .string key, .string key2, .string val, .string old, .int .i64 n] 23) := ⟨_, rfl⟩
      have hVs : V.heap.size = w.heap.size + 1 := by rw [hV]; simp
      have BV : Below w.heap.size w V := by rw [hV]; exact (Below.refl _ _).alloc (Nat.le_refl _) _
      rw [← hV]
      have e : touchL 8 key key2 = [⟨key, key2, false⟩] := by simp [touchL, tlt, hlt]
      rw [e]
      refine ⟨_, rfl, ?_, BV.alloc (by omega) _⟩
      have := tchs_new V w.heap.size (by omega) [⟨key, key2, false⟩] #[.string key, .string key2, .bool false] 1 rfl rfl (by unfold maxLen; omega)
      rw [hVs] at this
      exact this
    | false =>
      go_enter Try.func10, Try.ntmps10
      go_wp2
      go_ret
      have e : touchL 8 key key2 = [] := by simp [touchL, tlt, hlt]
      rw [e]
      exact ⟨_, rfl, World.ownsRow_nil _ _ _ _, (Below.refl _ _).alloc (Nat.le_refl _) _⟩
  · have e : touchL kind key key2 = [] := by
      unfold touchL
      rw [if_neg h1, if_neg (by omega), if_neg h6, if_neg h7, if_neg h8]
    have g1 : (kind == 1) = false := by simpa using h1
    have g2 : (kind == 2) = false := by simpa using h2
    have g3 : (kind == 3) = false := by simpa using h3
    have g4 : (kind == 4) = false := by simpa using h4
    have g5 : (kind == 5) = false := by simpa using h5
    have g6 : (kind == 6) = false := by simpa using h6
    have g7 : (kind == 7) = false := by simpa using h7
    have g8 : (kind == 8) = false := by simpa using h8
    rw [e]
    clear h1 h2 h3 h4 h5 h6 h7 h8 e
    go_enter Try.func10, Try.ntmps10
    go_wp2
    go_ret
    exact ⟨_, rfl, World.ownsRow_nil _ _ _ _, (Below.refl _ _).alloc (Nat.le_refl _) _⟩
end Go.Proofs.Ytahaecnopeffhaa
