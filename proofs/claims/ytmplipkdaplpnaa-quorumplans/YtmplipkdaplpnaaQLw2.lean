/- The statements' own helpers: decides, sound, unlike. -/
import Derived.Test.YtmplipkdaplpnaaQLaw
namespace Go.Proofs.Ytmplipkdaplpnaa
open Go.RowKit Go.Wire1

/-- Attributes that are sound, for any number of replicas. -/
def sndB (n seq : Int) (l : List Int) : Bool := decide (0 ≤ seq) && (decide (seq ≤ 1073741824) && (decide ((l.length : Int) = n) && okL l))
theorem sndB_sz {n seq : Int} {l : List Int} (h : szQ n = true) : sndB n seq l = sndQ n seq l := by
  have hn : n = 3 ∨ n = 5 ∨ n = 7 := by unfold szQ at h; simpa using h
  unfold sndB sndQ isVec okW
  by_cases hl : (l.length : Int) = n
  · rw [decide_eq_true hl, decide_eq_true (show 1 ≤ l.length ∧ l.length ≤ 7 by omega)]; rfl
  · rw [decide_eq_false hl]; rfl
/-- The places of the votes in memory: the i-th one's first cell. -/
theorem VRow.frAt {w : World} {a : Option Addr} {n : Nat} {vs : List Vt} (h : VRow w a n vs) (h0 : 0 < n) : ∃ b off, a = some ⟨b, off, none⟩ ∧ ∀ i v, vs[i]? = some v → w.rangeAt b (off + i * 15) (vcs v) := by
  obtain ⟨b, off, e, hat⟩ := h.row.at_ h0
  exact ⟨b, off, e, fun i v hi => hat i (vcs v) (by rw [List.getElem?_map, hi]; rfl)⟩
theorem take_map_succ {α β : Type} {f : α → β} {l : List α} {k : Nat} {v : α} (h : l[k]? = some v) : (l.take (k + 1)).map f = (l.take k).map f ++ [f v] := by
  rw [List.take_add_one, h]; simp
end Go.Proofs.Ytmplipkdaplpnaa
