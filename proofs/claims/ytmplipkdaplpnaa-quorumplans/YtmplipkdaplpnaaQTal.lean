/- What is gathered of votes, as mathematics. -/
import Derived.Test.YtmplipkdaplpnaaQTly0
import Derived.Test.YtmplipkdaplpnaaQVote2
namespace Go.Proofs.Ytmplipkdaplpnaa
open Go.RowKit Go.Wire1

def acs (v : Vt) : List Value := [.int .i64 v.seq, .slice v.da v.dn v.dc]
theorem acs_one (v : Vt) : ∀ u ∈ acs v, u.oneCell' = true := by
  intro u hu
  simp only [acs, List.mem_cons, List.not_mem_nil, or_false] at hu
  rcases hu with h | h <;> subst h <;> rfl
/-- The votes that count, each with its From, in the order of the list. -/
def tal (ok : Vt → Bool) (n slf : Int) (vs : List Vt) : List (Int × Vt) := vs.foldl (fun m v => if ok v then addM n slf m v.fr v else m) []
def talA (n slf : Int) (vs : List Vt) : List (Int × List Value) := mapV acs (tal (fun v => sndQ n v.seq v.deps) n slf vs)
def talV (n slf : Int) (vs : List Vt) : List (Int × List Value) := mapV vcs (tal (okV n) n slf vs)
theorem okT_mapV {α β : Type} (f : α → β) (n slf : Int) (m : List (Int × α)) (fr : Int) : okT n slf (mapV f m) fr = okT n slf m fr := by
  unfold okT; rw [lkm_mapV]; simp
theorem addM_mapV {α β : Type} (f : α → β) (n slf : Int) (m : List (Int × α)) (fr : Int) (v : α) : addM n slf (mapV f m) fr (f v) = mapV f (addM n slf m fr v) := by
  unfold addM
  rw [okT_mapV]
  cases okT n slf m fr
  · rfl
  · simp [mapV]
theorem tal_snoc (ok : Vt → Bool) (n slf : Int) (vs : List Vt) (v : Vt) : tal ok n slf (vs ++ [v]) = if ok v then addM n slf (tal ok n slf vs) v.fr v else tal ok n slf vs := by
  unfold tal; rw [List.foldl_append]; rfl
theorem talA_yes {n slf : Int} {vs : List Vt} {v : Vt} (h : sndQ n v.seq v.deps = true) : talA n slf (vs ++ [v]) = addM n slf (talA n slf vs) v.fr (acs v) := by
  unfold talA; rw [tal_snoc, addM_mapV]; simp only [h, if_true]
theorem talA_no {n slf : Int} {vs : List Vt} {v : Vt} (h : sndQ n v.seq v.deps = false) : talA n slf (vs ++ [v]) = talA n slf vs := by
  unfold talA; rw [tal_snoc]; simp only [h, Bool.false_eq_true, if_false]
theorem talV_yes {n slf : Int} {vs : List Vt} {v : Vt} (h : okV n v = true) : talV n slf (vs ++ [v]) = addM n slf (talV n slf vs) v.fr (vcs v) := by
  unfold talV; rw [tal_snoc, addM_mapV]; simp only [h, if_true]
theorem talV_no {n slf : Int} {vs : List Vt} {v : Vt} (h : okV n v = false) : talV n slf (vs ++ [v]) = talV n slf vs := by
  unfold talV; rw [tal_snoc]; simp only [h, Bool.false_eq_true, if_false]
end Go.Proofs.Ytmplipkdaplpnaa
