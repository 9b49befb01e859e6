/- A vote, as a record of mathematics and as cells; the small predicates of package quorum. -/
import Derived.Test.YtdpphagogjdjjaaVPreds
import Derived.Test.YtdpphagogjdjjaaBlk
import Derived.Test.YtdpphagogjdjjaaHMath
import Derived.Test.YtdpphagogjdjjaaQSort
import Derived.WalkLawsBesides
import Derived.Deep.RegionHeld3
namespace Go.Proofs.Ytdpphagogjdjjaa
open Go.RowKit Go.Wire1

/-- A vote. -/
structure Vt where
  fr : Int
  st : Int
  same : Bool
  rd : Int
  who : Int
  c : Cm
  seq : Int
  da : Option Addr
  dn : Nat
  dc : Nat
  deps : List Int
/-- Its fifteen cells. -/
def vcs (v : Vt) : List Value :=
  [.int .i64 v.fr, .int .i64 v.st, .bool v.same, .int .i64 v.rd, .int .i64 v.who, .int .i64 v.c.kind, .int .i64 v.c.client, .int .i64 v.c.req, .string v.c.key, .string v.c.key2, .string v.c.val, .string v.c.old, .int .i64 v.c.n, .int .i64 v.seq, .slice v.da v.dn v.dc]
theorem vcs0 (v : Vt) : (vcs v)[0]? = some (.int .i64 v.fr) := rfl
theorem vcs1 (v : Vt) : (vcs v)[1]? = some (.int .i64 v.st) := rfl
theorem vcs2 (v : Vt) : (vcs v)[2]? = some (.bool v.same) := rfl
theorem vcs3 (v : Vt) : (vcs v)[3]? = some (.int .i64 v.rd) := rfl
theorem vcs4 (v : Vt) : (vcs v)[4]? = some (.int .i64 v.who) := rfl
theorem vcs13 (v : Vt) : (vcs v)[13]? = some (.int .i64 v.seq) := rfl
theorem vcs14 (v : Vt) : (vcs v)[14]? = some (.slice v.da v.dn v.dc) := rfl
theorem vcs_len (v : Vt) : (vcs v).length = 15 := rfl
theorem vcs_one (v : Vt) : ∀ u ∈ vcs v, u.oneCell' = true := by
  intro u hu
  simp only [vcs, List.mem_cons, List.not_mem_nil, or_false] at hu
  rcases hu with h | h | h | h | h | h | h | h | h | h | h | h | h | h | h <;> subst h <;> rfl
/-- Its Deps lie in memory. -/
structure Vok (w : World) (v : Vt) : Prop where
  seg : SegI w v.da v.dn v.deps
  cap : v.dn ≤ v.dc
  bfr : -9223372036854775808 ≤ v.fr ∧ v.fr ≤ 9223372036854775807
theorem Vok.below {w w' : World} {B : Nat} {v : Vt} (h : Vok w v) (hb : Below B w w') (hB : w.heap.size ≤ B) : Vok w' v := ⟨h.seg.below hb hB, h.cap, h.bfr⟩

def szQ (n : Int) : Bool := (n == 3) || ((n == 5) || (n == 7))
def repQ (n i : Int) : Bool := decide (0 ≤ i) && decide (i < n)
def sndQ (n seq : Int) (l : List Int) : Bool := decide (0 ≤ seq) && (decide (seq ≤ 1073741824) && (decide ((l.length : Int) = n) && isVec l))
def votedQ (s : Int) : Bool := (s == 1) || (s == 2)
theorem range_below {w w' : World} {B b o : Nat} {cs : List Value} (h : w.rangeAt b o cs) (hb : Below B w w') (hB : b < B) : w'.rangeAt b o cs := fun j v hv => by
  rw [hb.cell (p := ⟨b, o + j, none⟩) hB]; exact h j v hv
theorem qresults_cell_tmp {P : Program} {fn : Func} {p q : Tmp} {ty : TypeId} (h : fn.results = #[.cell p ty, .tmp q]) (tmps : Array Value) (w : World) (b : Nat) (cs : List Value) (d : TypeDesc) (x : Value) (ht : tmps[p]?.getD undef = .pointer (some ⟨b, 0, none⟩)) (hq : tmps[q]?.getD undef = x)
    (hc : w.rangeAt b 0 cs) (hu : P.underlying ty = some d) (hd : d.isRow = true) (hi : (P.info? ty).map (·.size) = some cs.length) : (results fn tmps).run P w = .ok (.tuple #[.agg cs.toArray, x]) w := by
  have hl := run_loadVar_mid (P := P) w b 0 ty cs d hc hu hd hi
  simp [results, h, ht, asAddr, hl, hq]
theorem covers_self (l : List Int) : coversB l l = isVec l := by
  have : overK l l l.length = true := by
    unfold overK
    simp
  unfold coversB
  rw [this]
  simp

set_option maxHeartbeats 1000000 in
set_option maxRecDepth 100000 in
theorem qsize_any (n : Int) (w : World) : Calls Try.prog 13 #[.int .i64 n] w fun e w' => e = .returned (.bool (szQ n)) ∧ w = w' := by
  by_cases h3 : n = 3
  · subst h3
    go_enter Try.func13, Try.ntmps13
    go_wp2
    go_ret
    exact ⟨rfl, rfl⟩
  · by_cases h5 : n = 5
    · subst h5
      go_enter Try.func13, Try.ntmps13
      go_wp2
      go_ret
      exact ⟨rfl, rfl⟩
    · have HQ : Hid (szQ n = (n == 7)) := by
        show _ = _
        unfold szQ
        rw [beq_eq_false_iff_ne.2 h3, beq_eq_false_iff_ne.2 h5]; rfl
      have b3 : (n == 3) = false := beq_eq_false_iff_ne.2 h3
      have b5 : (n == 5) = false := beq_eq_false_iff_ne.2 h5
      clear h3 h5
      go_enter Try.func13, Try.ntmps13
      go_wp2
      go_ret
      exact ⟨by rw [HQ.out]; rfl, rfl⟩
set_option maxHeartbeats 1000000 in
set_option maxRecDepth 100000 in
theorem qrep_any (n i : Int) (w : World) : Calls Try.prog 14 #[.int .i64 n, .int .i64 i] w fun e w' => e = .returned (.bool (repQ n i)) ∧ w = w' := by
  by_cases h0 : 0 ≤ i
  · have HQ : Hid (repQ n i = decide (i < n)) := by show _ = _; unfold repQ; rw [decide_eq_true h0]; rfl
    go_enter Try.func14, Try.ntmps14
    go_wp2
    go_ret
    exact ⟨by rw [HQ.out]; rfl, rfl⟩
  · have HQ : Hid (repQ n i = false) := by show _ = _; unfold repQ; rw [decide_eq_false h0]; rfl
    go_enter Try.func14, Try.ntmps14
    go_wp2
    go_ret
    exact ⟨by rw [HQ.out]; rfl, rfl⟩
end Go.Proofs.Ytdpphagogjdjjaa
