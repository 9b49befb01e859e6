/- What Fast and Slow give fits; a row of one vote. -/
import Derived.Test.YtmplipkdaplpnaaQFast
import Derived.Test.YtmplipkdaplpnaaQLaw
namespace Go.Proofs.Ytmplipkdaplpnaa
open Go.RowKit Go.Wire1

theorem row1_new (w : World) (v : Vt) : RowS (w.alloc (.cells (vcs v).toArray 33)) 15 (some ⟨w.heap.size, 0, none⟩) 1 [vcs v] := by
  refine ⟨rfl, by unfold maxLen; omega, fun _ => ⟨w.heap.size, 0, rfl, fun i cs hi => ?_⟩, fun cs hc => ?_⟩
  · match i, hi with
    | 0, hi =>
      simp only [List.getElem?_cons_zero, Option.some.injEq] at hi
      subst hi
      have := (blk_new w 33 (vcs v)).range
      simpa using this
  · simp only [List.mem_cons, List.not_mem_nil, or_false] at hc
    subst hc
    exact ⟨vcs_len v, vcs_one v⟩
theorem fast_fit (n slf seq : Int) {l : List Int} (hl : Fit l) (vs : List Vt) : Fit (fastQ n slf seq l vs).2.2 := by
  unfold fastQ
  split
  · split
    · exact hl
    · split
      · exact fit_union _
      · exact fun j => by simp
  · exact fun j => by simp
theorem slow_fit (n slf seq : Int) (l : List Int) (vs : List Vt) : Fit (slowQ n slf seq l vs).2.2 := by
  unfold slowQ
  split
  · split
    · exact fun j => by simp
    · exact fit_union _
  · exact fun j => by simp
end Go.Proofs.Ytmplipkdaplpnaa
