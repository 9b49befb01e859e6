/- The pieces that cut lays are a list of lists in memory, and joined they are the bytes. -/
import Derived.Test.YtiajkdjljilndaaDoorFrHead
import Derived.Test.YtiajkdjljilndaaDoorFrCutC
namespace Go.Proofs.YtiajkdjljilndaaDoor
open Go.RowKit Go.Wire1 Go.Crc2 Go.Frm

def pieces (l : List Int) (ps : List (Nat × Nat)) : List (List Int) := ps.map (fun p => (l.drop p.1).take p.2)
theorem pieces_join (l : List Int) : ∀ (ps : List (Nat × Nat)) (s e : Nat), Pcs s ps e → (pieces l ps).flatten = (l.drop s).take (e - s)
  | [], s, e, h => by
    obtain rfl : s = e := h
    simp [pieces]
  | p :: r, s, e, h => by
    obtain ⟨h1, h2⟩ := h
    have ih := pieces_join l r (s + p.2) e h2
    have hle := h2.le
    have e1 : (pieces l (p :: r)).flatten = (l.drop p.1).take p.2 ++ (pieces l r).flatten := rfl
    rw [e1, ih, h1, show e - s = p.2 + (e - (s + p.2)) by omega, List.take_add, List.drop_drop]
theorem pieces_all {l : List Int} {ps : List (Nat × Nat)} {n : Nat} (h : Pcs 0 ps n) (hl : l.length = n) : (pieces l ps).flatten = l := by
  rw [pieces_join l ps 0 n h, List.drop_zero, Nat.sub_zero, List.take_of_length_le (by omega)]
theorem pcs_in : ∀ {ps : List (Nat × Nat)} {s e : Nat}, Pcs s ps e → ∀ p ∈ ps, p.1 + p.2 ≤ e
  | [], _, _, _, p, hp => by cases hp
  | q :: r, s, e, h, p, hp => by
    rcases List.mem_cons.1 hp with rfl | hp
    · have := h.2.le; have := h.1; omega
    · exact pcs_in h.2 p hp
theorem chs_cut {w w' : World} {B : Nat} {a : Option Addr} {n cap : Nat} {l : List Int} {ps : List (Nat × Nat)} {va : Option Addr} {vc : Nat} (hs : Seg w a n l) (hnc : n ≤ cap) (hc : cap ≤ maxLen) (hy : Byt l) (hb : Below w.heap.size w w')
    (ho : w'.ownsRow B 22 1 (.slice va ps.length vc) ps.length (ps.map (pcv a cap))) (hp : Pcs 0 ps n) : Chs w' va ps.length (pieces l ps) := by
  refine ⟨by simp [pieces], ?_, fun hn => ?_⟩
  · rcases ho.2 with ⟨e, h0⟩ | ⟨g, cap', cur, e, _, _, h1, h2, _⟩
    · unfold maxLen; omega
    · omega
  · rcases ho.2 with ⟨e, h0⟩ | ⟨g, cap', cur, e, _⟩
    · omega
    · simp only [Value.slice.injEq] at e
      obtain ⟨rfl, _, rfl⟩ := e
      refine ⟨g, 0, rfl, fun j hj => ?_⟩
      have hin := pcs_in hp ps[j] (List.getElem_mem hj)
      have e2 : (pieces l ps).getD j [] = (l.drop ps[j].1).take ps[j].2 := by simp [pieces, List.getD, List.getElem?_map, List.getElem?_eq_getElem hj]
      rw [e2, Nat.zero_add]
      refine ⟨a.map (fun x => x.add ps[j].1), ps[j].2, cap - ps[j].1, ?_, ?_, by omega, by omega, byt_take (byt_drop hy _) _⟩
      · rw [ho.cellAt j (by omega), List.getElem?_map, List.getElem?_eq_getElem hj]; rfl
      · exact (hs.cut hin (fun _ b off e => by rw [e]; simp [Addr.add])).below hb (Nat.le_refl _)
end Go.Proofs.YtiajkdjljilndaaDoor
