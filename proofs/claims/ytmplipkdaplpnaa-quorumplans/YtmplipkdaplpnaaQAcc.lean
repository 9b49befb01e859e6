/- The contract of accept; a plan's cells. -/
import Derived.Test.YtmplipkdaplpnaaQEq
import Derived.Test.YtmplipkdaplpnaaQHigh
import Derived.Laws.Tables
namespace Go.Proofs.Ytmplipkdaplpnaa
open Go.RowKit Go.Wire1

/-- A command's cells, a plan's. -/
def ccs (c : Cm) : List Value := [.int .i64 c.kind, .int .i64 c.client, .int .i64 c.req, .string c.key, .string c.key2, .string c.val, .string c.old, .int .i64 c.n]
def pcs (k : Int) (c : Cm) (seq : Int) (a : Option Addr) (n cap : Nat) : List Value := .int .i64 k :: (ccs c ++ [.int .i64 seq, .slice a n cap])
def cmZ : Cm := ⟨0, 0, 0, ⟨#[]⟩, ⟨#[]⟩, ⟨#[]⟩, ⟨#[]⟩, 0⟩
def zP : List Value := pcs 0 cmZ 0 none 0 0
theorem pcs_one (k : Int) (c : Cm) (seq : Int) (a : Option Addr) (n cap : Nat) : ∀ u ∈ pcs k c seq a n cap, u.oneCell' = true := by
  intro u hu
  simp only [pcs, ccs, List.cons_append, List.nil_append, List.mem_cons, List.not_mem_nil, or_false] at hu
  rcases hu with h | h | h | h | h | h | h | h | h | h | h <;> subst h <;> rfl
theorem vcs_cmd {W : World} {b : Nat} {v : Vt} (h : W.rangeAt b 0 (vcs v)) : W.rangeAt b 5 (ccs v.c) := fun j x hj => by
  have := h (5 + j) x (by
    match j, hj with
    | 0, hj => exact hj
    | 1, hj => exact hj
    | 2, hj => exact hj
    | 3, hj => exact hj
    | 4, hj => exact hj
    | 5, hj => exact hj
    | 6, hj => exact hj
    | 7, hj => exact hj
    | j + 8, hj => simp [ccs] at hj)
  rwa [Nat.zero_add] at this
theorem built_plan (k : Int) (c : Cm) (seq : Int) (a : Option Addr) (n cap : Nat) (w : World) : (Instr.build 38 #[(0, .int .i64 k), (1, .agg (ccs c).toArray), (2, .int .i64 seq), (3, .slice a n cap)]).run Try.prog w = .ok (.agg (pcs k c seq a n cap).toArray) w := by kernel_rfl
theorem grown_set' (w : World) (g k : Nat) (v : Value) : w.grownBy (w.setCell ⟨g, k, none⟩ v) (some g) := ⟨rfl, rfl, rfl, by simp [World.setCell], fun i _ hne => heap_setCell_other w ⟨g, k, none⟩ i v (fun e => hne (by rw [e]))⟩
theorem grown_cells (g : Nat) : ∀ (vs : List Value) (o : Nat) (w : World), w.grownBy (w.setCells g o vs) (some g)
  | [], _, _w => ⟨rfl, rfl, rfl, Nat.le_refl _, fun _ _ _ => rfl⟩
  | v :: r, o, w => (grown_set' w g o v).trans (grown_cells g r (o + 1) _)
set_option maxHeartbeats 4000000 in
set_option maxRecDepth 100000 in
theorem accept_any (v : Vt) (w : World) (hv : Vok w v) (h0 : 0 < v.dn) (h7 : v.dn ≤ 7) :
    Calls Try.prog 34 #[.agg (vcs v).toArray] w fun e w' => ∃ ca cc, e = .returned (.agg (pcs 2 v.c v.seq ca v.dn cc).toArray) ∧ w'.ownsRow w.heap.size 3 1 (.slice ca v.dn cc) v.dn (v.deps.map (Value.int .i64)) ∧ Below w.heap.size w w' := by
  have g13 := vcs13 v
  have g14 := vcs14 v
  obtain ⟨U, hU⟩ : ∃ U, U = (w.alloc (.cells (vcs v).toArray 33)).alloc (.cells #[.int .i64 0, .int .i64 0, .int .i64 0, .int .i64 0, .string ⟨#[]⟩, .string ⟨#[]⟩, .string ⟨#[]⟩, .string ⟨#[]⟩, .int .i64 0, .int .i64 0, .slice none 0 0] 38) := ⟨_, rfl⟩
  have BU : Hid (Below w.heap.size w U) := by rw [hU]; exact ((Below.refl _ w).alloc (Nat.le_refl _) _).alloc (by simp) _
  have QU : Hid (Blk U w.heap.size (vcs v)) := by rw [hU]; exact (blk_new w 33 (vcs v)).on ((Below.refl _ _).alloc (Nat.le_refl _) _)
  have ZU : Hid (Blk U (w.heap.size + 1) zP) := by
    have := blk_new (w.alloc (.cells (vcs v).toArray 33)) 38 zP
    rw [World.size_alloc] at this
    rw [hU]; exact this
  have HUS : Hid (w.heap.size + 1 < U.heap.size) := ZU.out.lt
  have HV : Hid (Vok U v) := hv.below BU.out (Nat.le_refl _)
  clear hv
  go_enter Try.func34, Try.ntmps34
  go_upto_region 1 with fail
  rw [← hU]
  clear hU
  refine wp_region_held_drew (S := (fun W' => W'.rangeAt w.heap.size 0 (vcs v))) (by kernel_rfl) QU.out.range (fun hHeld => ?_)
  refine wpAnyH_take (i := 0) (v := ?_) rfl (by kernel_rfl) (by kernel_rfl) (by kernel_rfl) (fun _ _ _ h => h) (Or.inl ⟨by rfl, ?_⟩) (by assumption) ?_
  rotate_left
  · intro w hSw
    try dsimp only at hSw
    go_simp
    try with_reducible rfl
  try simp only [Act.put, List.getElem_toArray, List.getElem_cons_zero, List.setIfInBounds_toArray, List.set_cons_zero, List.set_cons_succ]
  refine wpAnyH_take (i := 1) rfl (by kernel_rfl) (by kernel_rfl) (by kernel_rfl) (fun _ _ _ h => h) (yieldsIf_load_mid (by rfl) 31 _ rfl w.heap.size 5 rfl [.int .i64 v.c.kind, .int .i64 v.c.client, .int .i64 v.c.req, .string v.c.key, .string v.c.key2, .string v.c.val, .string v.c.old, .int .i64 v.c.n] _ (fun _ h => vcs_cmd h) Try.underlying31 rfl (by kernel_rfl)) (by assumption) ?_
  try simp only [Act.put, List.getElem_toArray, List.getElem_cons_succ, List.getElem_cons_zero, List.setIfInBounds_toArray, List.set_cons_zero, List.set_cons_succ]
  refine wpAnyH_take (i := 2) (v := ?_) rfl (by kernel_rfl) (by kernel_rfl) (by kernel_rfl) (fun _ _ _ h => h) (Or.inl ⟨by rfl, ?_⟩) (by assumption) ?_
  rotate_left
  · intro w hSw
    try dsimp only at hSw
    go_simp
    try with_reducible rfl
  try simp only [Act.put, List.getElem_toArray, List.getElem_cons_succ, List.getElem_cons_zero, List.setIfInBounds_toArray, List.set_cons_zero, List.set_cons_succ]
  refine wpAnyH_take (i := 3) (v := ?_) rfl (by kernel_rfl) (by kernel_rfl) (by kernel_rfl) (fun _ _ _ h => h) (Or.inl ⟨by rfl, ?_⟩) (by assumption) ?_
  rotate_left
  · intro w hSw
    try dsimp only at hSw
    have s0 := hSw 13 _ g13
    rw [Nat.zero_add] at s0
    go_simp
    try with_reducible rfl
  try simp only [Act.put, List.getElem_toArray, List.getElem_cons_succ, List.getElem_cons_zero, List.setIfInBounds_toArray, List.set_cons_zero, List.set_cons_succ]
  refine wpAnyH_take (i := 4) (v := ?_) rfl (by kernel_rfl) (by kernel_rfl) (by kernel_rfl) (fun _ _ _ h => h) (Or.inl ⟨by rfl, ?_⟩) (by assumption) ?_
  rotate_left
  · intro w hSw
    try dsimp only at hSw
    go_simp
    try with_reducible rfl
  try simp only [Act.put, List.getElem_toArray, List.getElem_cons_succ, List.getElem_cons_zero, List.setIfInBounds_toArray, List.set_cons_zero, List.set_cons_succ]
  refine wpAnyH_take (i := 5) (v := ?_) rfl (by kernel_rfl) (by kernel_rfl) (by kernel_rfl) (fun _ _ _ h => h) (Or.inl ⟨by rfl, ?_⟩) (by assumption) ?_
  rotate_left
  · intro w hSw
    try dsimp only at hSw
    have s1 := hSw 14 _ g14
    rw [Nat.zero_add] at s1
    go_simp
    try with_reducible rfl
  try simp only [Act.put, List.getElem_toArray, List.getElem_cons_succ, List.getElem_cons_zero, List.setIfInBounds_toArray, List.set_cons_zero, List.set_cons_succ]
  refine wpAnyH_ready (rs := [6]) (by kernel_rfl) (by simp) ?_
  refine AllReadyH.cons rfl (fun K hK => ?_) AllReadyH.nil
  rw [if_pos (by rfl)]
  go_wp2_with fail
  refine (cloneI_any v.da v.dn v.dc v.deps _ (HV.out.seg.drewN 1) h0 h7).mono ?_
  rintro e w5 ⟨ca, cc, rfl, ho5, hb5⟩
  have HO5 := hide ho5
  have B5 : Hid (Below U.heap.size U w5) := (Below.refl U.heap.size U).drew.trans hb5
  have Z5 : Hid (Blk w5 (w.heap.size + 1) zP) := ZU.out.on B5.out
  have TZ5 : Hid (w5.there (w.heap.size + 1) 0 11) := Z5.out.there
  have Q5 : Hid (Blk w5 w.heap.size (vcs v)) := QU.out.on B5.out
  clear ho5 hb5
  refine hK.out _ _ Q5.out.range (fun hHeld => ?_)
  clear hK K
  try simp only [Act.put, List.getElem_toArray, List.getElem_cons_succ, List.getElem_cons_zero, List.setIfInBounds_toArray, List.set_cons_zero, List.set_cons_succ]
  refine wpAnyH_take (i := 7) (v := ?_) rfl (by kernel_rfl) (by kernel_rfl) (by kernel_rfl) (fun _ _ _ h => h) (Or.inl ⟨by rfl, ?_⟩) (by assumption) ?_
  rotate_left
  · intro w hSw
    try dsimp only at hSw
    go_simp
    try with_reducible rfl
  try simp only [Act.put, List.getElem_toArray, List.getElem_cons_succ, List.getElem_cons_zero, List.setIfInBounds_toArray, List.set_cons_zero, List.set_cons_succ]
  refine wpAnyH_ready (rs := [8]) (by kernel_rfl) (by simp) ?_
  refine AllReadyH.cons rfl (fun K hK => ?_) AllReadyH.nil
  rw [if_pos (by rfl)]
  refine wp_store_mid 38 _ _ rfl (w.heap.size + 1) 0 (pcs 2 v.c v.seq ca v.dn cc).toArray rfl rfl TZ5.out (by kernel_rfl) (all_oneCell_toArray (pcs_one _ _ _ _ _ _)) ?_
  refine hK.out _ _ (World.rangeAt_setCells_apart Q5.out.range _ _ _ (.inl (by omega))) (fun hHeld => ?_)
  clear hK K
  try simp only [Act.put, List.getElem_toArray, List.getElem_cons_succ, List.getElem_cons_zero]
  refine wpAnyH_done (by kernel_rfl) ?_ _
  obtain ⟨Y, hY⟩ : ∃ Y, Y = w5.setCells (w.heap.size + 1) 0 (pcs 2 v.c v.seq ca v.dn cc) := ⟨_, rfl⟩
  have HY : Hid (Blk Y (w.heap.size + 1) (pcs 2 v.c v.seq ca v.dn cc)) := by rw [hY]; exact blk_cells Z5.out rfl
  have BY : Hid (Below w.heap.size w Y) := by rw [hY]; exact below_cells (by omega) _ _ _ (BU.out.trans (B5.out.mono BU.out.size))
  have OY : Hid (Y.ownsRow U.heap.size 3 1 (.slice ca v.dn cc) v.dn (v.deps.map (Value.int .i64))) := by
    show World.ownsRow _ _ _ _ _ _ _
    refine World.ownsRow.kept (row := some (w.heap.size + 1)) HO5.out (by rw [hY]; exact grown_cells _ _ _ _) ?_
    rcases HO5.out.2 with ⟨e, _⟩ | ⟨g', cap', cur, e, hB', _⟩
    · rw [e]; exact .inl rfl
    · have hB2 : U.heap.size ≤ g' := hB'
      have := HUS.out
      rw [e]; refine .inr ?_; intro e2; simp only [Value.ownBlock, Option.some.injEq] at e2; omega
  rw [← hY]
  clear hY
  go_wp2
  refine bodyPost_ret (results_cell_mid Try.results34 _ _ (w.heap.size + 1) (pcs 2 v.c v.seq ca v.dn cc) _ rfl HY.out.range Try.underlying38 rfl (by kernel_rfl)) rfl ⟨ca, cc, rfl, own_base OY.out BU.out.size, BY.out⟩
end Go.Proofs.Ytmplipkdaplpnaa
