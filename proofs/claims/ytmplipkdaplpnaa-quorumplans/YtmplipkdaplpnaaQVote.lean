/- A vote, as a record of mathematics and as cells; the small predicates of package quorum. -/
import Derived.Test.YtmplipkdaplpnaaVPreds
import Derived.Test.YtmplipkdaplpnaaBlk
import Derived.Test.YtmplipkdaplpnaaHMath
import Derived.Test.YtmplipkdaplpnaaQSort
import Derived.WalkLawsBesides
import Derived.Deep.RegionHeld3
namespace Go.Proofs.Ytmplipkdaplpnaa
open Go.RowKit Go.Wire1

/-- A vote. -/
structure Vt where
  fr : Int
  st : Int
  same : Bool
  rd : Int
  who : Int
  c : Cm
  seq : Int
  da : Option Addr
  dn : Nat
  dc : Nat
  deps : List Int
/-- Its fifteen cells. -/
def vcs (v : Vt) : List Value :=
  [.int .i64 v.fr, .int .i64 v.st, .bool v.same, .int .i64 v.rd, .int .i64 v.who, .int .i64 v.c.kind, .int .i64 v.c.client, .int .i64 v.c.req, .string v.c.key, .string v.c.key2, .string v.c.val, .string v.c.old, .int .i64 v.c.n, .int .i64 v.seq, .slice v.da v.dn v.dc]
theorem vcs0 (v : Vt) : (vcs v)[0]? = some (.int .i64 v.fr) := rfl
theorem vcs1 (v : Vt) : (vcs v)[1]? = some (.int .i64 v.st) := rfl
theorem vcs2 (v : Vt) : (vcs v)[2]? = some (.bool v.same) := rfl
theorem vcs3 (v : Vt) : (vcs v)[3]? = some (.int .i64 v.rd) := rfl
theorem vcs4 (v : Vt) : (vcs v)[4]? = some (.int .i64 v.who) := rfl
theorem vcs13 (v : Vt) : (vcs v)[13]? = some (.int .i64 v.seq) := rfl
theorem vcs14 (v : Vt) : (vcs v)[14]? = some (.slice v.da v.dn v.dc) := rfl
theorem vcs_len (v : Vt) : (vcs v).length = 15 := rfl
theorem vcs_one (v : Vt) : ∀ u ∈ vcs v, u.oneCell' = true := by
  intro u hu
  simp only [vcs, List.mem_cons, List.not_mem_nil, or_false] at hu
  rcases hu with h | h | h | h | h | h | h | h | h | h | h | h | h | h | h <;> subst h <;> rfl
/-- Its Deps lie in memory. -/
structure Vok (w : World) (v : Vt) : Prop where
  seg : SegI w v.da v.dn v.deps
  cap : v.dn ≤ v.dc
  bfr : -9223372036854775808 ≤ v.fr ∧ v.fr ≤ 9223372036854775807
theorem Vok.below {w w' : World} {B : Nat} {v : Vt} (h : Vok w v) (hb : Below B w w') (hB : w.heap.size ≤ B) : Vok w' v := ⟨h.seg.below hb hB, h.cap, h.bfr⟩

def szQ (n : Int) : Bool := (n == 3) || ((n == 5) || (n == 7))
def repQ (n i : Int) : Bool := decide (0 ≤ i) && decide (i < n)
def sndQ (n seq : Int) (l : List Int) : Bool := decide (0 ≤ seq) && (decide (seq ≤ 1073741824) && (decide ((l.length : Int) = n) && isVec l))
def votedQ (s : Int) : Bool := (s == 1) || (s == 2)
theorem range_below {w w' : World} {B b o : Nat} {cs : List Value} (h : w.rangeAt b o cs) (hb : Below B w w') (hB : b < B) : w'.rangeAt b o cs := fun j v hv => by
  rw [hb.cell (p := ⟨b, o + j, none⟩) hB]; exact h j v hv
theorem qresults_cell_tmp {P : Program} {fn : Func} {p q : Tmp} {ty : TypeId} (h : fn.results = #[.cell p ty, .tmp q]) (tmps : Array Value) (w : World) (b : Nat) (cs : List Value) (d : TypeDesc) (x : Value) (ht : tmps[p]?.getD undef = .pointer (some ⟨b, 0, none⟩)) (hq : tmps[q]?.getD undef = x)
    (hc : w.rangeAt b 0 cs) (hu : P.underlying ty = some d) (hd : d.isRow = true) (hi : (P.info? ty).map (·.size) = some cs.length) : (results fn tmps).run P w = .ok (.tuple #[.agg cs.toArray, x]) w := by
  have hl := run_loadVar_mid (P := P) w b 0 ty cs d hc hu hd hi
  simp [results, h, ht, asAddr, hl, hq]
theorem covers_self (l : List Int) : coversB l l = isVec l := by
  have : overK l l l.length = true := by
    unfold overK
    simp
  unfold coversB
  rw [this]
  simp

set_option maxHeartbeats 1000000 in
set_option maxRecDepth 100000 in
theorem qsize_any (n : Int) (w : World) : Calls Try.prog 25 #[.int .i64 n] w fun e w' => e = .returned (.bool (szQ n)) ∧ w = w' := by
  by_cases h3 : n = 3
  · subst h3
    go_enter Try.func25, Try.ntmps25
    go_wp2
    go_ret
    exact ⟨rfl, rfl⟩
  · by_cases h5 : n = 5
    · subst h5
      go_enter Try.func25, Try.ntmps25
      go_wp2
      go_ret
      exact ⟨rfl, rfl⟩
    · have HQ : Hid (szQ n = (n == 7)) := by
        show _ = _
        unfold szQ
        rw [beq_eq_false_iff_ne.2 h3, beq_eq_false_iff_ne.2 h5]; rfl
      have b3 : (n == 3) = false := beq_eq_false_iff_ne.2 h3
      have b5 : (n == 5) = false := beq_eq_false_iff_ne.2 h5
      clear h3 h5
      go_enter Try.func25, Try.ntmps25
      go_wp2
      go_ret
      exact ⟨by rw [HQ.out]; rfl, rfl⟩
set_option maxHeartbeats 1000000 in
set_option maxRecDepth 100000 in
theorem qrep_any (n i : Int) (w : World) : Calls Try.prog 26 #[.int .i64 n, .int .i64 i] w fun e w' => e = .returned (.bool (repQ n i)) ∧ w = w' := by
  by_cases h0 : 0 ≤ i
  · have HQ : Hid (repQ n i = decide (i < n)) := by show _ = _; unfold repQ; rw [decide_eq_true h0]; rfl
    go_enter Try.func26, Try.ntmps26
    go_wp2
    go_ret
    exact ⟨by rw [HQ.out]; rfl, rfl⟩
  · have HQ : Hid (repQ n i = false) := by show _ = _; unfold repQ; rw [decide_eq_false h0]; rfl
    go_enter Try.func26, Try.ntmps26
    go_wp2
    go_ret
    exact ⟨by rw [HQ.out]; rfl, rfl⟩
set_option maxHeartbeats 1000000 in
set_option maxRecDepth 100000 in
theorem qspared_any (n : Int) (h : szQ n = true) (w : World) : Calls Try.prog 19 #[.int .i64 n] w fun e w' => e = .returned (.int .i64 ((n - 1) / 2)) ∧ w = w' := by
  have : n = 3 ∨ n = 5 ∨ n = 7 := by
    unfold szQ at h
    simpa using h
  rcases this with rfl | rfl | rfl <;> (
    go_enter Try.func19, Try.ntmps19
    go_wp2
    go_ret
    exact ⟨rfl, rfl⟩)
set_option maxHeartbeats 1000000 in
set_option maxRecDepth 100000 in
theorem qsound_any (n seq : Int) (a : Option Addr) (k c : Nat) (l : List Int) (w : World) (h : SegI w a k l) :
    Calls Try.prog 47 #[.int .i64 n, .agg #[.int .i64 seq, .slice a k c]] w fun e w' => e = .returned (.bool (sndQ n seq l)) ∧ Below w.heap.size w w' := by
  have HS : Hid (SegI (w.alloc (.cells #[.int .i64 seq, .slice a k c] 24)) a k l) := h.below ((Below.refl _ _).alloc (Nat.le_refl _) _) (Nat.le_refl _)
  have HL : Hid (l.length = k) := h.1
  clear h
  by_cases h0 : 0 ≤ seq
  · by_cases h1 : seq ≤ 1073741824
    · by_cases h2 : (k : Int) = n
      · subst h2
        have HQ : Hid (sndQ (k : Int) seq l = coversB l l) := by
          show _ = _
          unfold sndQ
          rw [decide_eq_true h0, decide_eq_true h1, HL.out, decide_eq_true rfl, covers_self]; rfl
        go_enter Try.func47, Try.ntmps47
        go_wp2_with fail
        refine (covers_any _ _ _ _ _ _ l l _ HS.out HS.out).mono ?_
        rintro e w' ⟨rfl, q, rfl⟩
        go_wp2
        go_ret
        exact ⟨by rw [HQ.out]; rfl, below_drewN ((Below.refl _ _).alloc (Nat.le_refl _) _) _⟩
      · have HQ : Hid (sndQ n seq l = false) := by show _ = _; unfold sndQ; rw [HL.out, decide_eq_false h2]; simp
        have b2 : ((k : Int) == n) = false := beq_eq_false_iff_ne.2 h2
        clear h2
        go_enter Try.func47, Try.ntmps47
        go_wp2
        go_ret
        exact ⟨by rw [HQ.out]; rfl, (Below.refl _ _).alloc (Nat.le_refl _) _⟩
    · have HQ : Hid (sndQ n seq l = false) := by show _ = _; unfold sndQ; rw [decide_eq_false h1]; simp
      go_enter Try.func47, Try.ntmps47
      go_wp2
      go_ret
      exact ⟨by rw [HQ.out]; rfl, (Below.refl _ _).alloc (Nat.le_refl _) _⟩
  · have HQ : Hid (sndQ n seq l = false) := by show _ = _; unfold sndQ; rw [decide_eq_false h0]; simp
    go_enter Try.func47, Try.ntmps47
    go_wp2
    go_ret
    exact ⟨by rw [HQ.out]; rfl, (Below.refl _ _).alloc (Nat.le_refl _) _⟩
set_option maxHeartbeats 1000000 in
set_option maxRecDepth 100000 in
theorem qvoted_any (v : Vt) (w : World) : Calls Try.prog 57 #[.agg (vcs v).toArray] w fun e w' => e = .returned (.bool (votedQ v.st)) ∧ Below w.heap.size w w' := by
  have g1 := vcs1 v
  by_cases h : v.st = 1
  · have HQ : Hid (votedQ v.st = true) := by show _ = _; unfold votedQ; rw [h]; rfl
    have b1 : (v.st == 1) = true := by simp [h]
    clear h
    go_enter Try.func57, Try.ntmps57
    go_wp2
    go_ret
    exact ⟨by rw [HQ.out]; rfl, (Below.refl _ _).alloc (Nat.le_refl _) _⟩
  · have HQ : Hid (votedQ v.st = (v.st == 2)) := by show _ = _; unfold votedQ; rw [beq_eq_false_iff_ne.2 h]; rfl
    have b1 : (v.st == 1) = false := beq_eq_false_iff_ne.2 h
    clear h
    go_enter Try.func57, Try.ntmps57
    go_wp2
    go_ret
    exact ⟨by rw [HQ.out]; rfl, (Below.refl _ _).alloc (Nat.le_refl _) _⟩
set_option maxHeartbeats 1000000 in
set_option maxRecDepth 100000 in
theorem qacc_any (v : Vt) (w : World) : Calls Try.prog 33 #[.agg (vcs v).toArray] w fun e w' => e = .returned (.bool (v.st == 2)) ∧ Below w.heap.size w w' := by
  have g1 := vcs1 v
  go_enter Try.func33, Try.ntmps33
  go_wp2
  go_ret
  exact ⟨rfl, (Below.refl _ _).alloc (Nat.le_refl _) _⟩
set_option maxHeartbeats 1000000 in
set_option maxRecDepth 100000 in
theorem qsame_any (v : Vt) (w : World) : Calls Try.prog 36 #[.agg (vcs v).toArray] w fun e w' => e = .returned (.bool v.same) ∧ Below w.heap.size w w' := by
  have g2 := vcs2 v
  go_enter Try.func36, Try.ntmps36
  go_wp2
  go_ret
  exact ⟨rfl, (Below.refl _ _).alloc (Nat.le_refl _) _⟩
set_option maxHeartbeats 1000000 in
set_option maxRecDepth 100000 in
theorem qattr_any (n : Int) (v : Vt) (w : World) (h : Vok w v) :
    Calls Try.prog 17 #[.int .i64 n, .agg (vcs v).toArray] w fun e w' => e = .returned (.tuple #[.agg #[.int .i64 v.seq, .slice v.da v.dn v.dc], .bool (sndQ n v.seq v.deps)]) ∧ Below w.heap.size w w' := by
  have g13 := vcs13 v
  have g14 := vcs14 v
  have HV := hide h
  clear h
  obtain ⟨X, hX⟩ : ∃ X, X = ((w.alloc (.cells (vcs v).toArray 33)).alloc (.cells #[.int .i64 0, .slice none 0 0] 24)).alloc (.cells #[.int .i64 v.seq, .slice v.da v.dn v.dc] 24) := ⟨_, rfl⟩
  have BX : Hid (Below w.heap.size w X) := by rw [hX]; exact (((Below.refl _ w).alloc (Nat.le_refl _) _).alloc (by simp) _).alloc (by simp; omega) _
  have QX : Hid (Blk X (w.heap.size + 1) [.int .i64 0, .slice none 0 0]) := by
    have := blk_new (w.alloc (.cells (vcs v).toArray 33)) 24 [.int .i64 0, .slice none 0 0]
    rw [World.size_alloc] at this
    rw [hX]
    exact this.on ((Below.refl _ _).alloc (Nat.le_refl _) _)
  have PX := blk_new ((w.alloc (.cells (vcs v).toArray 33)).alloc (.cells #[.int .i64 0, .slice none 0 0] 24)) 24 [.int .i64 v.seq, .slice v.da v.dn v.dc]
  rw [World.size_alloc, World.size_alloc, ← hX] at PX
  have RX : Hid (X.rangeAt (w.heap.size + 1 + 1) 0 [.int .i64 v.seq, .slice v.da v.dn v.dc]) := PX.range
  have RL : Hid (w.heap.size + 1 + 1 < X.heap.size) := PX.lt
  clear PX
  go_enter Try.func17, Try.ntmps17
  go_wp2
  rw [← hX]
  clear hX
  refine wp_region_held_drew (S := (fun W' => W'.rangeAt (w.heap.size + 1 + 1) 0 [.int .i64 v.seq, .slice v.da v.dn v.dc])) (by kernel_rfl) RX.out (fun hHeld => ?_)
  refine wpAnyH_take (i := 0) rfl (by kernel_rfl) (by kernel_rfl) (by kernel_rfl) (fun _ _ _ h => h) (yieldsIf_load_mid (by rfl) 24 _ rfl (w.heap.size + 1 + 1) 0 rfl [.int .i64 v.seq, .slice v.da v.dn v.dc] _ (fun _ h => h) Try.underlying24 rfl (by kernel_rfl)) (by assumption) ?_
  try simp only [Act.put, List.getElem_toArray, List.getElem_cons_zero, List.setIfInBounds_toArray, List.set_cons_zero, List.set_cons_succ]
  refine wpAnyH_take (i := 1) (v := ?_) rfl (by kernel_rfl) (by kernel_rfl) (by kernel_rfl) (fun _ _ _ h => h) (Or.inl ⟨by rfl, ?_⟩) (by assumption) ?_
  rotate_left
  · intro w hSw
    try dsimp only at hSw
    go_simp
    try with_reducible rfl
  try simp only [Act.put, List.getElem_toArray, List.getElem_cons_succ, List.getElem_cons_zero, List.setIfInBounds_toArray, List.set_cons_zero, List.set_cons_succ]
  refine wpAnyH_take (i := 2) rfl (by kernel_rfl) (by kernel_rfl) (by kernel_rfl) (fun _ _ _ h => h) (yieldsIf_load_mid (by rfl) 24 _ rfl (w.heap.size + 1 + 1) 0 rfl [.int .i64 v.seq, .slice v.da v.dn v.dc] _ (fun _ h => h) Try.underlying24 rfl (by kernel_rfl)) (by assumption) ?_
  try simp only [Act.put, List.getElem_toArray, List.getElem_cons_succ, List.getElem_cons_zero, List.setIfInBounds_toArray, List.set_cons_zero, List.set_cons_succ]
  refine wpAnyH_ready (rs := [3]) (by kernel_rfl) (by simp) ?_
  refine AllReadyH.cons rfl (fun K hK => ?_) AllReadyH.nil
  rw [if_pos (by rfl)]
  go_wp2_with fail
  refine (qsound_any n v.seq v.da v.dn v.dc v.deps _ ((HV.out.seg.below BX.out (Nat.le_refl _)).drewN 1)).mono ?_
  rintro e w1 ⟨rfl, hb1⟩
  have B1 : Hid (Below X.heap.size X w1) := (Below.refl X.heap.size X).drew.trans hb1
  have Q1 : Hid (Blk w1 (w.heap.size + 1) [.int .i64 0, .slice none 0 0]) := QX.out.on B1.out
  have T1 : Hid (w1.there (w.heap.size + 1) 0 2) := Q1.out.there
  clear hb1
  refine hK.out _ _ (range_below RX.out B1.out RL.out) (fun hHeld => ?_)
  clear hK K
  try simp only [Act.put, List.getElem_toArray, List.getElem_cons_succ, List.getElem_cons_zero, List.setIfInBounds_toArray, List.set_cons_zero, List.set_cons_succ]
  refine wpAnyH_ready (rs := [4]) (by kernel_rfl) (by simp) ?_
  refine AllReadyH.cons rfl (fun K hK => ?_) AllReadyH.nil
  rw [if_pos (by rfl)]
  refine wp_store_mid 24 _ _ rfl (w.heap.size + 1) 0 #[.int .i64 v.seq, .slice v.da v.dn v.dc] rfl rfl T1.out (by kernel_rfl) (by kernel_rfl) ?_
  refine hK.out _ _ (World.rangeAt_setCells_apart (range_below RX.out B1.out RL.out) _ _ _ (.inl (by omega))) (fun hHeld => ?_)
  clear hK K
  try simp only [Act.put, List.getElem_toArray, List.getElem_cons_succ, List.getElem_cons_zero]
  refine wpAnyH_take (i := 5) (v := ?_) rfl (by kernel_rfl) (by kernel_rfl) (by kernel_rfl) (fun _ _ _ h => h) (Or.inl ⟨by rfl, ?_⟩) (by assumption) ?_
  rotate_left
  · intro w hSw
    try dsimp only at hSw
    go_simp
    try with_reducible rfl
  try simp only [Act.put, List.getElem_toArray, List.getElem_cons_succ, List.getElem_cons_zero, List.setIfInBounds_toArray, List.set_cons_zero, List.set_cons_succ]
  refine wpAnyH_done (by kernel_rfl) ?_ _
  obtain ⟨Y, hY⟩ : ∃ Y, Y = w1.setCells (w.heap.size + 1) 0 [.int .i64 v.seq, .slice v.da v.dn v.dc] := ⟨_, rfl⟩
  have HY : Hid (Blk Y (w.heap.size + 1) [.int .i64 v.seq, .slice v.da v.dn v.dc]) := by rw [hY]; exact blk_cells Q1.out rfl
  have BY : Hid (Below w.heap.size w Y) := by rw [hY]; exact below_cells (by omega) _ _ _ (BX.out.trans (B1.out.mono BX.out.size))
  rw [← hY]
  clear hY
  go_wp2
  refine bodyPost_ret (qresults_cell_tmp Try.results17 _ _ (w.heap.size + 1) [.int .i64 v.seq, .slice v.da v.dn v.dc] _ _ rfl rfl HY.out.range Try.underlying24 rfl (by kernel_rfl)) rfl ⟨rfl, BY.out⟩
end Go.Proofs.Ytmplipkdaplpnaa
