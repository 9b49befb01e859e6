/- How an argument that is a list of lists of bytes is opened for the walks. -/
import Derived.Test.YtibdgnegdnapoacDoorArgs
import Derived.ChangeArms
namespace Go.Proofs.YtibdgnegdnapoacDoor
open Go.ChangeShapes Go.WideShapes Go.ChangeAt Go.RowKit Go.Wire1

structure LS where
  a : Option Addr
  n : Nat
  cap : Nat
  l : List Int
def lsZ : LS := ⟨none, 0, 0, []⟩
def LsOk (w : World) (s : LS) : Prop := Seg w s.a s.n s.l ∧ Byt s.l ∧ s.n ≤ s.cap ∧ s.cap ≤ 140737488351232
def LSeg (w : World) (a : Option Addr) (n : Nat) (ls : List LS) : Prop :=
  ls.length = n ∧ n ≤ maxLen ∧ (0 < n → ∃ b off, a = some ⟨b, off, none⟩ ∧ ∀ i, i < n → w.cell? ⟨b, off + i, none⟩ = some (.slice (ls.getD i lsZ).a (ls.getD i lsZ).n (ls.getD i lsZ).cap)) ∧ ∀ i, i < n → LsOk w (ls.getD i lsZ)
theorem LSeg.below {w w' : World} {a : Option Addr} {n : Nat} {l : List LS} {B : Nat} (h : LSeg w a n l) (hb : Below B w w') (hB : w.heap.size ≤ B) : LSeg w' a n l := by
  refine ⟨h.1, h.2.1, fun hn => ?_, fun i hi => ?_⟩
  · obtain ⟨b, off, rfl, hc⟩ := h.2.2.1 hn
    refine ⟨b, off, rfl, fun i hi => ?_⟩
    have hv := hc i hi
    rw [hb.cell (p := ⟨b, off + i, none⟩) (by have := cell_lt hv; show b < B; omega)]; exact hv
  · obtain ⟨h1, h2⟩ := h.2.2.2 i hi
    exact ⟨h1.below hb hB, h2⟩

theorem weights_all {H : Type} {P : Program} {e : TypeId} {d : DataW H} : ∀ {es : List (DataW H)}, d ∈ es → ∀ m ∈ d.weights P e, m ∈ DataW.weightsAll P e es
  | [], h, _, _ => by cases h
  | c :: r, h, m, hm => by
    unfold DataW.weightsAll
    rcases List.mem_cons.1 h with h | h
    · subst h; exact List.mem_append_left _ hm
    · exact List.mem_append_right _ (weights_all h m hm)
theorem cellsL : Tryd.prog.cellsOf 30 = 1 := by kernel_rfl
theorem bytesL : Tryd.prog.bytesOf 30 = 24 := by kernel_rfl

set_option maxRecDepth 100000 in
/-- What it weighs is a hypothesis of the row's own. -/
theorem open_lists {H : Type} {enc : TypeId × Value → H} {W : World} {fuel : Nat} {a : Option Addr} {len cap : Nat} {x : DataW H × List MemPlace}
    (h : DataW.trod enc Tryd.prog W 0 (fun _ => true) true fuel 36 [.slice a len cap] = some x)
    (hw : ∀ m ∈ x.1.weights Tryd.prog 36, m ≤ reachBytes) : ∃ l, LSeg W a len l ∧ cap * 24 ≤ 140737488351232 ∧ len ≤ cap := by
  rcases DataW.trod_slice Tryd.underlying36 h with ⟨hcs, _⟩ | ⟨ad, len', cap', elems, rest, n, _, hcs, hx, _, hl, hm, hlen, hel, hsp, _⟩
  · simp only [List.cons.injEq, Value.slice.injEq, and_true] at hcs
    obtain ⟨rfl, rfl, rfl⟩ := hcs
    exact ⟨[], ⟨rfl, by unfold maxLen; omega, (fun h => by omega), fun i hi => by omega⟩, by omega, by omega⟩
  · simp only [List.cons.injEq, Value.slice.injEq, and_true] at hcs
    obtain ⟨rfl, rfl, rfl⟩ := hcs
    rw [cellsL] at hel
    have hwt : x.1.weights Tryd.prog 36 = ((elems.map (·.1)).length + (rest.map (·.1)).length) * Tryd.prog.bytesOf 30 :: (DataW.weightsAll Tryd.prog 30 (elems.map (·.1)) ++ DataW.weightsAll Tryd.prog 30 (rest.map (·.1))) := by
      rw [hx]
      show DataW.weights Tryd.prog 36 (.slice _ _) = _
      unfold DataW.weights
      rw [Tryd.underlying36]
    rw [hwt] at hw
    have hcapw : cap * 24 ≤ 140737488351232 := by
      have h1 := hw _ List.mem_cons_self
      rw [bytesL, List.length_map, List.length_map, hlen, (hsp rfl).1] at h1
      simp only [reachBytes] at h1
      have : len + (cap - len) = cap := by omega
      rw [this] at h1
      exact h1
    have each : ∀ i, i < len → ∃ o : LS, LsOk W o ∧ W.cells? 0 (ad.add (i * 1)) 1 = some [.slice o.a o.n o.cap] := fun i hi => by
      have h1 := hel i hi
      have hge : elems[i]? = some elems[i] := List.getElem?_eq_getElem (by omega)
      rw [hge, Option.bind_eq_some_iff] at h1
      obtain ⟨cs, hc, ht⟩ := h1
      obtain ⟨la, ln, lc, rfl⟩ : ∃ la ln lc, cs = [.slice la ln lc] := by
        rcases DataW.trod_slice Tryd.underlying30 ht with ⟨e, _⟩ | ⟨ad', l', c', _, _, _, _, e, _⟩
        · exact ⟨none, 0, 0, e⟩
        · exact ⟨_, _, _, e⟩
      obtain ⟨l, hseg, hbyt, hcap, hdat⟩ := open_bytes ht
      refine ⟨⟨la, ln, lc, l⟩, ⟨hseg, hbyt, hcap, ?_⟩, hc⟩
      rcases hdat with ⟨_, _, e⟩ | ⟨es, sp, hd, he, hcc⟩
      · show lc ≤ _; omega
      · have hmem : elems[i].1 ∈ elems.map (·.1) := List.mem_map_of_mem (List.getElem_mem _)
        have hwi : lc ∈ (elems[i].1).weights Tryd.prog 30 := by
          rw [hd]
          show lc ∈ DataW.weights Tryd.prog 30 (.slice _ _)
          unfold DataW.weights
          rw [Tryd.underlying30, hcc]
          show lc ∈ lc * Tryd.prog.bytesOf 5 :: _
          rw [bytes5, Nat.mul_one]
          exact List.mem_cons_self
        have := hw _ (List.mem_cons_of_mem _ (List.mem_append_left _ (weights_all hmem _ hwi)))
        simp only [reachBytes] at this
        exact this
    have pick : ∃ f : Nat → LS, ∀ i, i < len → LsOk W (f i) ∧ W.cells? 0 (ad.add (i * 1)) 1 = some [.slice (f i).a (f i).n (f i).cap] :=
      ⟨fun i => if hi : i < len then (each i hi).choose else lsZ, fun i hi => by simp only [dif_pos hi]; exact (each i hi).choose_spec⟩
    obtain ⟨f, hf⟩ := pick
    have hget : ∀ i, i < len → ((List.range len).map f).getD i lsZ = f i := fun i hi => by simp [hi]
    refine ⟨(List.range len).map f, ⟨by simp, by omega, fun hn => ?_, fun i hi => by rw [hget i hi]; exact (hf i hi).1⟩, hcapw, hl⟩
    obtain ⟨bb, off, spot⟩ := ad
    have hs0 := (World.cells?_some (hf 0 hn).2).2.2 0 (by omega)
    have hs1 : W.cell? ⟨bb, off, spot⟩ = some (.slice (f 0).a (f 0).n (f 0).cap) := by simpa [Addr.add] using hs0
    have hspot : spot = none := World.cell?_spot hs1
    subst hspot
    refine ⟨bb, off, rfl, fun i hi => ?_⟩
    rw [hget i hi]
    have hc := (World.cells?_some (hf i hi).2).2.2 0 (by omega)
    simp only [add_at, Nat.mul_one, Nat.add_zero] at hc
    exact hc
end Go.Proofs.YtibdgnegdnapoacDoor
