/- The contracts of Fast and Slow. -/
import Derived.Test.YtpbbbbmnboeffaaQUni
import Derived.Test.YtpbbbbmnboeffaaQGatA
namespace Go.Proofs.Ytpbbbbmnboeffaa
open Go.RowKit Go.Wire1

theorem qresults_tmp_cell {P : Program} {fn : Func} {p q : Tmp} {ty : TypeId} (h : fn.results = #[.tmp q, .cell p ty]) (tmps : Array Value) (w : World) (b : Nat) (cs : List Value) (d : TypeDesc) (x : Value) (ht : tmps[p]?.getD undef = .pointer (some ⟨b, 0, none⟩)) (hq : tmps[q]?.getD undef = x)
    (hc : w.rangeAt b 0 cs) (hu : P.underlying ty = some d) (hd : d.isRow = true) (hi : (P.info? ty).map (·.size) = some cs.length) : (results fn tmps).run P w = .ok (.tuple #[x, .agg cs.toArray]) w := by
  have hl := run_loadVar_mid (P := P) w b 0 ty cs d hc hu hd hi
  simp [results, h, ht, asAddr, hl, hq]
theorem ansQ_mapV {α β : Type} (f : α → β) (m : List (Int × α)) : ansQ (mapV f m) = (ansQ m).map f := by
  unfold ansQ
  rw [List.map_filterMap]
  congr 1
  funext i
  rw [lkm_mapV]
/-- Those that count in Fast and Slow, by rising ids. -/
def toldA (n slf : Int) (vs : List Vt) : List Vt := ansQ (tal (fun v => sndQ n v.seq v.deps) n slf vs)
theorem tal_sub {ok : Vt → Bool} {n slf : Int} {vs : List Vt} : ∀ p ∈ tal ok n slf vs, p.2 ∈ vs ∧ ok p.2 = true ∧ p.1 = p.2.fr := by
  unfold tal
  have key : ∀ (l : List Vt) (m : List (Int × Vt)), (∀ v ∈ l, v ∈ vs) → (∀ p ∈ m, p.2 ∈ vs ∧ ok p.2 = true ∧ p.1 = p.2.fr) → ∀ p ∈ l.foldl (fun m v => if ok v then addM n slf m v.fr v else m) m, p.2 ∈ vs ∧ ok p.2 = true ∧ p.1 = p.2.fr := by
    intro l
    induction l with
    | nil => intro m _ hm p hp; exact hm p hp
    | cons v r ih =>
      intro m hl hm
      refine ih _ (fun u hu => hl u (List.mem_cons_of_mem _ hu)) ?_
      intro p hp
      dsimp only at hp
      by_cases h : ok v = true
      · rw [if_pos h] at hp
        unfold addM at hp
        split at hp
        · rcases List.mem_append.1 hp with hp | hp
          · exact hm p hp
          · simp only [List.mem_singleton] at hp
            subst hp
            exact ⟨hl v (List.mem_cons_self ..), h, rfl⟩
        · exact hm p hp
      · rw [if_neg h] at hp
        exact hm p hp
  exact key vs [] (fun v hv => hv) (fun p hp => by cases hp)
theorem ansQ_mem {α : Type} {m : List (Int × α)} {v : α} (h : v ∈ ansQ m) : ∃ k, (k, v) ∈ m := by
  unfold ansQ at h
  obtain ⟨i, _, hl⟩ := List.mem_filterMap.1 h
  exact ⟨_, lkm_some hl⟩
theorem toldA_mem {n slf : Int} {vs : List Vt} {v : Vt} (h : v ∈ toldA n slf vs) : v ∈ vs := by
  obtain ⟨k, hk⟩ := ansQ_mem h
  exact (tal_sub _ hk).1
theorem ansQ_le {α : Type} (m : List (Int × α)) : (ansQ m).length ≤ 7 := by
  unfold ansQ
  exact Nat.le_trans (List.length_filterMap_le _ _) (by simp)
theorem sz_le {n : Int} (h : szQ n = true) : n ≤ 7 := by
  unfold szQ at h
  simp only [Bool.or_eq_true, beq_iff_eq] at h
  omega
theorem lead_sz {n slf seq : Int} {l : List Int} (h : leadQ n slf seq l = true) : szQ n = true ∧ repQ n slf = true ∧ sndQ n seq l = true := by
  unfold leadQ at h
  simpa only [Bool.and_eq_true] using h
theorem snd_len {n seq : Int} {l : List Int} (h : sndQ n seq l = true) : 0 < l.length ∧ l.length ≤ 7 := by
  unfold sndQ isVec okW at h
  simp only [Bool.and_eq_true, decide_eq_true_eq] at h
  omega
/-- What Slow and Fast tell: a number, a Seq, Deps. -/
def slowQ (n slf seq : Int) (l : List Int) (vs : List Vt) : Int × Int × List Int :=
  if leadQ n slf seq l then (if ((toldA n slf vs).length : Int) < (n - 1) / 2 then (0, 0, []) else (2, uSeq seq (toldA n slf vs), uDeps l (toldA n slf vs))) else (0, 0, [])
def fastQ (n slf seq : Int) (l : List Int) (vs : List Vt) : Int × Int × List Int :=
  if leadQ n slf seq l then
    (if 2 * ((n - 1) / 2) - 1 ≤ (cntQ seq l (toldA n slf vs) : Int) then (1, seq, l)
     else if (n - 1) / 2 ≤ ((toldA n slf vs).length : Int) ∧ 2 ≤ ((toldA n slf vs).length : Int) - (cntQ seq l (toldA n slf vs) : Int) then (2, uSeq seq (toldA n slf vs), uDeps l (toldA n slf vs)) else (0, 0, []))
  else (0, 0, [])
/-- The answer in memory. -/
def AnsP (w : World) (r : Int × Int × List Int) (e : Ending) (w' : World) : Prop :=
  ∃ ua uc, e = .returned (.tuple #[.int .i64 r.1, .agg #[.int .i64 r.2.1, .slice ua r.2.2.length uc]]) ∧ w'.ownsRow w.heap.size 3 1 (.slice ua r.2.2.length uc) r.2.2.length (r.2.2.map (Value.int .i64)) ∧ Below w.heap.size w w'
theorem ansP_zero {w w' : World} (hb : Below w.heap.size w w') : AnsP w (0, 0, []) (.returned (.tuple #[.int .i64 0, .agg #[.int .i64 0, .slice none 0 0]])) w' := ⟨none, 0, rfl, World.ownsRow_nil _ _ _ _, hb⟩
theorem box2_set {w : World} {g : Nat} {x y u v : Value} (h : Blk w g [x, y]) : Blk ((w.setCell ⟨g, 0, none⟩ u).setCell ⟨g, 1, none⟩ v) g [u, v] := (h.setAt 0 u).setAt 1 v
end Go.Proofs.Ytpbbbbmnboeffaa
