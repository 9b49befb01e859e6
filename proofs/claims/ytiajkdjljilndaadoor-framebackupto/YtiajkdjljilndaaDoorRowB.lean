/- How an argument that is a list of lists of bytes is opened, with how much it weighs in the second form. -/
import Derived.Test.YtiajkdjljilndaaDoorArgs
import Derived.Test.YtiajkdjljilndaaDoorBulk
import Derived.Test.YtiajkdjljilndaaDoorFrDrain
import Derived.ChangeArms
namespace Go.Proofs.YtiajkdjljilndaaDoor
open Go.ChangeShapes Go.WideShapes Go.ChangeAt Go.RowKit Go.Wire1

theorem cellsLB : Tryd.prog.cellsOf 22 = 1 := by kernel_rfl
theorem bulk_flat {H : Type} : ∀ (es : List (DataW H)) (g : Nat → List Int), (∀ i (hi : i < es.length), (g i).length + 1 ≤ Rows.uptoBulk es[i]) → ((List.range es.length).map g).flatten.length + es.length ≤ Rows.uptoBulkAll es
  | [], _, _ => by simp
  | d :: r, g, h => by
    have h0 := h 0 (by simp)
    have ih := bulk_flat r (fun i => g (i + 1)) (fun i hi => h (i + 1) (by simpa using hi))
    show _ ≤ Rows.uptoBulk d + Rows.uptoBulkAll r
    have e : (List.range (d :: r).length).map g = g 0 :: (List.range r.length).map (fun i => g (i + 1)) := by
      rw [List.length_cons, List.range_succ_eq_map, List.map_cons, List.map_map]; rfl
    rw [e, List.flatten_cons, List.length_append, List.length_cons]
    simp only [List.getElem_cons_zero] at h0
    omega
structure LT where
  a : Option Addr
  n : Nat
  cap : Nat
  l : List Int
set_option maxRecDepth 100000 in
/-- A list of lists of bytes of bulk at most 1048576. -/
theorem open_rowb {H : Type} {enc : TypeId × Value → H} {W : World} {fuel : Nat} {a : Option Addr} {len cap : Nat} {x : DataW H × List MemPlace}
    (h : DataW.trod enc Tryd.prog W 0 (fun _ => true) true fuel 24 [.slice a len cap] = some x) (hw : Rows.uptoBulk x.1 ≤ 1048576) :
    ∃ ls, Chs W a len ls ∧ len ≤ cap ∧ cap ≤ 1048576 ∧ ls.flatten.length + ls.length ≤ Rows.uptoBulk x.1 := by
  rcases DataW.trod_slice Tryd.underlying24 h with ⟨hcs, _⟩ | ⟨ad, len', cap', elems, rest, n, _, hcs, hx, _, hl, hm, hlen, hel, hsp, _⟩
  · simp only [List.cons.injEq, Value.slice.injEq, and_true] at hcs
    obtain ⟨rfl, rfl, rfl⟩ := hcs
    exact ⟨[], ⟨rfl, by unfold maxLen; omega, (fun h => by omega)⟩, by omega, by omega, by simp⟩
  · simp only [List.cons.injEq, Value.slice.injEq, and_true] at hcs
    obtain ⟨rfl, rfl, rfl⟩ := hcs
    rw [cellsLB] at hel
    have hbk : Rows.uptoBulk x.1 = Rows.uptoBulkAll (elems.map (·.1)) + Rows.uptoBulkAll (rest.map (·.1)) + 1 := by rw [hx]; rfl
    rw [hbk] at hw ⊢
    have hcapb : cap ≤ 1048576 := by
      have h1 := bulk_len (elems.map (·.1))
      have h2 := bulk_len (rest.map (·.1))
      rw [List.length_map] at h1 h2
      rw [(hsp rfl).1] at h2
      omega
    have each : ∀ i, i < len → ∃ o : LT, (Seg W o.a o.n o.l ∧ o.n ≤ o.cap ∧ o.cap ≤ maxLen ∧ Byt o.l) ∧ W.cells? 0 (ad.add (i * 1)) 1 = some [.slice o.a o.n o.cap] ∧ ∀ hi : i < elems.length, o.l.length + 1 ≤ Rows.uptoBulk elems[i].1 := fun i hi => by
      have h1 := hel i hi
      have hge : elems[i]? = some elems[i] := List.getElem?_eq_getElem (by omega)
      rw [hge, Option.bind_eq_some_iff] at h1
      obtain ⟨cs, hc, ht⟩ := h1
      obtain ⟨la, ln, lc, rfl⟩ : ∃ la ln lc, cs = [.slice la ln lc] := by
        rcases DataW.trod_slice Tryd.underlying22 ht with ⟨e, _⟩ | ⟨ad', l', c', _, _, _, _, e, _⟩
        · exact ⟨none, 0, 0, e⟩
        · exact ⟨_, _, _, e⟩
      obtain ⟨l, hseg, hbyt, hcap, hdat⟩ := open_bytes ht
      have hmem : elems[i].1 ∈ elems.map (·.1) := List.mem_map_of_mem (List.getElem_mem _)
      have hbm := bulk_mem hmem
      refine ⟨⟨la, ln, lc, l⟩, ⟨hseg, hcap, ?_, hbyt⟩, hc, fun hi2 => ?_⟩
      · rcases hdat with ⟨_, _, e⟩ | ⟨es, sp, hd, he, hcc⟩
        · show lc ≤ _; unfold maxLen; omega
        · have h3 : Rows.uptoBulk elems[i].1 = Rows.uptoBulkAll es + Rows.uptoBulkAll sp + 1 := by rw [show elems[i].1 = _ from hd]; rfl
          have h4 := bulk_len es
          have h5 := bulk_len sp
          show lc ≤ _; unfold maxLen; omega
      · show l.length + 1 ≤ _
        rw [hseg.1]
        rcases hdat with ⟨_, e, _⟩ | ⟨es, sp, hd, he, hcc⟩
        · have := bulk_pos elems[i].1; omega
        · have h3 : Rows.uptoBulk elems[i].1 = Rows.uptoBulkAll es + Rows.uptoBulkAll sp + 1 := by rw [show elems[i].1 = _ from hd]; rfl
          have h4 := bulk_len es
          omega
    have pick : ∃ f : Nat → LT, ∀ i, i < len → (Seg W (f i).a (f i).n (f i).l ∧ (f i).n ≤ (f i).cap ∧ (f i).cap ≤ maxLen ∧ Byt (f i).l) ∧ W.cells? 0 (ad.add (i * 1)) 1 = some [.slice (f i).a (f i).n (f i).cap] ∧ ∀ hi : i < elems.length, (f i).l.length + 1 ≤ Rows.uptoBulk elems[i].1 :=
      ⟨fun i => if hi : i < len then (each i hi).choose else ⟨none, 0, 0, []⟩, fun i hi => by simp only [dif_pos hi]; exact (each i hi).choose_spec⟩
    obtain ⟨f, hf⟩ := pick
    have hget : ∀ i, i < len → ((List.range len).map (fun i => (f i).l)).getD i [] = (f i).l := fun i hi => by simp [hi]
    have hflat := bulk_flat (elems.map (·.1)) (fun i => (f i).l) (fun i hi => by
      have hi2 : i < elems.length := by simpa using hi
      have := (hf i (by omega)).2.2 hi2
      rw [List.getElem_map]; exact this)
    rw [List.length_map, hlen] at hflat
    refine ⟨(List.range len).map (fun i => (f i).l), ⟨by simp, by unfold maxLen; omega, fun hn => ?_⟩, hl, hcapb, by rw [List.length_map, List.length_range]; omega⟩
    obtain ⟨bb, off, spot⟩ := ad
    have hs0 := (World.cells?_some (hf 0 hn).2.1).2.2 0 (by omega)
    have hs1 : W.cell? ⟨bb, off, spot⟩ = some (.slice (f 0).a (f 0).n (f 0).cap) := by simpa [Addr.add] using hs0
    have hspot : spot = none := World.cell?_spot hs1
    subst hspot
    refine ⟨bb, off, rfl, fun i hi => ?_⟩
    rw [hget i hi]
    have hc := (World.cells?_some (hf i hi).2.1).2.2 0 (by omega)
    simp only [add_at, Nat.mul_one, Nat.add_zero] at hc
    exact ⟨_, _, _, hc, (hf i hi).1⟩
end Go.Proofs.YtiajkdjljilndaaDoor
