/- How arguments that are lists of numbers and of texts are opened for the walks. -/
import Derived.Test.YthikofggapkhgaaArgs
import Derived.ChangeArms
namespace Go.Proofs.Ythikofggapkhgaa
open Go.ChangeShapes Go.WideShapes Go.ChangeAt Go.RowKit Go.Wire1

theorem bulk_pos {H : Type} (d : DataW H) : 1 ≤ Rows.uptoBulk d := by
  cases d with
  | lit l => cases l <;> simp [Rows.uptoBulk]
  | _ => simp [Rows.uptoBulk]
theorem bulk_len {H : Type} : ∀ es : List (DataW H), es.length ≤ Rows.uptoBulkAll es
  | [] => Nat.zero_le _
  | d :: r => by
    have h1 := bulk_pos d
    have h2 := bulk_len r
    show r.length + 1 ≤ Rows.uptoBulk d + Rows.uptoBulkAll r
    omega
theorem bulk_mem {H : Type} {d : DataW H} : ∀ {es : List (DataW H)}, d ∈ es → Rows.uptoBulk d ≤ Rows.uptoBulkAll es
  | [], h => by cases h
  | c :: r, h => by
    show _ ≤ Rows.uptoBulk c + Rows.uptoBulkAll r
    rcases List.mem_cons.1 h with h | h
    · subst h; omega
    · have := bulk_mem h; omega

/-- A list of numbers in memory. -/
def SegK (k : IntKind) (w : World) (a : Option Addr) (n : Nat) (l : List Int) : Prop :=
  l.length = n ∧ n ≤ maxLen ∧ (0 < n → ∃ b off, a = some ⟨b, off, none⟩ ∧ ∀ j, j < n → w.cell? ⟨b, off + j, none⟩ = some (.int k (l.getD j 0))) ∧ ∀ j, j < n → (Lit.int k (l.getD j 0)).wf = true
theorem SegK.below {k : IntKind} {w w' : World} {a : Option Addr} {n B : Nat} {l : List Int} (h : SegK k w a n l) (hb : Below B w w') (hB : w.heap.size ≤ B) : SegK k w' a n l := by
  obtain ⟨h1, h2, h3, h4⟩ := h
  refine ⟨h1, h2, fun hn => ?_, h4⟩
  obtain ⟨b, off, e, hc⟩ := h3 hn
  exact ⟨b, off, e, fun j hj => by
    have h := hc j hj
    rw [hb.cell (p := ⟨b, off + j, none⟩) (by have := cell_lt h; show b < B; omega)]; exact h⟩

theorem open_nums {k : IntKind} {t e : TypeId} (ht : Try.prog.underlying t = some (.slice e)) (he : Try.prog.underlying e = some (.int k)) (ce : Try.prog.cellsOf e = 1) {H : Type} {enc : TypeId × Value → H} {W : World} {fuel : Nat} {a : Option Addr} {len cap : Nat} {x : DataW H × List MemPlace}
    (h : DataW.trod enc Try.prog W 0 (fun _ => true) true fuel t [.slice a len cap] = some x) : ∃ l, SegK k W a len l ∧ len ≤ Rows.uptoBulk x.1 := by
  rcases Go.ChangeShapes.open_ints ht he ce h with ⟨hcs, hx⟩ | ⟨b, len', cap', zs, hcs, _, hl, hm, hz, hx, hcell, hwz⟩
  · simp only [List.cons.injEq, Value.slice.injEq, and_true] at hcs
    obtain ⟨rfl, rfl, rfl⟩ := hcs
    exact ⟨[], ⟨rfl, by unfold maxLen; omega, (fun h => by omega), fun j hj => by omega⟩, by omega⟩
  · simp only [List.cons.injEq, Value.slice.injEq, and_true] at hcs
    obtain ⟨rfl, rfl, rfl⟩ := hcs
    simp only [if_true] at hz
    refine ⟨zs.take len, ⟨by rw [List.length_take]; omega, by omega, fun hn => ?_, fun j hj => ?_⟩, ?_⟩
    · obtain ⟨bb, off, spot⟩ := b
      have hc0 := hcell 0 (by omega)
      have hspot : spot = none := by simpa [Addr.add] using World.cell?_spot hc0
      subst hspot
      refine ⟨bb, off, rfl, fun j hj => ?_⟩
      have := hcell j (by omega)
      rw [add_at] at this
      rw [this]
      simp [hj]
    · have hj2 : j < (zs.take len).length := by rw [List.length_take]; omega
      rw [List.getD, List.getElem?_eq_getElem hj2]
      exact hwz _ (List.mem_of_mem_take (List.getElem_mem hj2))
    · rw [hx]
      have h1 := bulk_len (lits (H := H) k (zs.take len))
      have h2 : (lits (H := H) k (zs.take len)).length = len := by simp [lits]; omega
      show len ≤ Rows.uptoBulkAll _ + Rows.uptoBulkAll _ + 1
      omega

/-- A list of texts in memory. -/
def SegS (w : World) (a : Option Addr) (n : Nat) (l : List ByteArray) : Prop :=
  l.length = n ∧ n ≤ maxLen ∧ (0 < n → ∃ b off, a = some ⟨b, off, none⟩ ∧ ∀ j, j < n → w.cell? ⟨b, off + j, none⟩ = some (.string (l.getD j ByteArray.empty))) ∧ ∀ j, j < n → (l.getD j ByteArray.empty).size ≤ 1048576
theorem SegS.below {w w' : World} {a : Option Addr} {n B : Nat} {l : List ByteArray} (h : SegS w a n l) (hb : Below B w w') (hB : w.heap.size ≤ B) : SegS w' a n l := by
  obtain ⟨h1, h2, h3, h4⟩ := h
  refine ⟨h1, h2, fun hn => ?_, h4⟩
  obtain ⟨b, off, e, hc⟩ := h3 hn
  exact ⟨b, off, e, fun j hj => by
    have h := hc j hj
    rw [hb.cell (p := ⟨b, off + j, none⟩) (by have := cell_lt h; show b < B; omega)]; exact h⟩
theorem cellsStr : Try.prog.cellsOf 9 = 1 := by kernel_rfl

set_option maxRecDepth 100000 in
theorem open_texts {H : Type} {enc : TypeId × Value → H} {W : World} {fuel : Nat} {a : Option Addr} {len cap : Nat} {x : DataW H × List MemPlace}
    (h : DataW.trod enc Try.prog W 0 (fun _ => true) true fuel 31 [.slice a len cap] = some x) (hb : Rows.uptoBulk x.1 ≤ 1048576) : ∃ l, SegS W a len l ∧ len ≤ Rows.uptoBulk x.1 := by
  rcases DataW.trod_slice Try.underlying31 h with ⟨hcs, _⟩ | ⟨ad, len', cap', elems, rest, n, _, hcs, hx, _, hl, hm, hlen, hel, _, _⟩
  · simp only [List.cons.injEq, Value.slice.injEq, and_true] at hcs
    obtain ⟨rfl, rfl, rfl⟩ := hcs
    exact ⟨[], ⟨rfl, by unfold maxLen; omega, (fun h => by omega), fun j hj => by omega⟩, by omega⟩
  · simp only [List.cons.injEq, Value.slice.injEq, and_true] at hcs
    obtain ⟨rfl, rfl, rfl⟩ := hcs
    rw [cellsStr] at hel
    have hbx : Rows.uptoBulk x.1 = Rows.uptoBulkAll (elems.map (·.1)) + Rows.uptoBulkAll (rest.map (·.1)) + 1 := by rw [hx]; rfl
    have each : ∀ i, i < len → ∃ s : ByteArray, s.size ≤ 1048576 ∧ W.cells? 0 (ad.add (i * 1)) 1 = some [.string s] := fun i hi => by
      have h1 := hel i hi
      have hge : elems[i]? = some elems[i] := List.getElem?_eq_getElem (by omega)
      rw [hge, Option.bind_eq_some_iff] at h1
      obtain ⟨cs, hc, ht⟩ := h1
      obtain ⟨s, rfl, hd, _⟩ := DataW.trod_string Try.underlying9 ht
      refine ⟨s, ?_, hc⟩
      have hmem : elems[i].1 ∈ elems.map (·.1) := List.mem_map_of_mem (List.getElem_mem _)
      have h2 := bulk_mem hmem
      have h3 : Rows.uptoBulk elems[i].1 = s.size + 1 := by
        rw [hd]
        show s.data.toList.length + 1 = s.size + 1
        rw [Array.length_toList]; rfl
      omega
    have pick : ∃ f : Nat → ByteArray, ∀ i, i < len → (f i).size ≤ 1048576 ∧ W.cells? 0 (ad.add (i * 1)) 1 = some [.string (f i)] :=
      ⟨fun i => if hi : i < len then (each i hi).choose else ByteArray.empty, fun i hi => by simp only [dif_pos hi]; exact (each i hi).choose_spec⟩
    obtain ⟨f, hf⟩ := pick
    have hget : ∀ i, i < len → ((List.range len).map f).getD i ByteArray.empty = f i := fun i hi => by simp [hi]
    refine ⟨(List.range len).map f, ⟨by simp, by omega, fun hn => ?_, fun i hi => by rw [hget i hi]; exact (hf i hi).1⟩, ?_⟩
    · obtain ⟨bb, off, spot⟩ := ad
      have hs0 := (World.cells?_some (hf 0 hn).2).2.2 0 (by omega)
      have hs1 : W.cell? ⟨bb, off, spot⟩ = some (.string (f 0)) := by simpa [Addr.add] using hs0
      have hspot : spot = none := World.cell?_spot hs1
      subst hspot
      refine ⟨bb, off, rfl, fun i hi => ?_⟩
      rw [hget i hi]
      have hc := (World.cells?_some (hf i hi).2).2.2 0 (by omega)
      simp only [add_at, Nat.mul_one, Nat.add_zero] at hc
      exact hc
    · have h1 := bulk_len (elems.map (·.1))
      rw [List.length_map] at h1
      omega
end Go.Proofs.Ythikofggapkhgaa
