/- How an argument that is a list of lists of bytes is opened for the walks, with where a list without place stands. -/
import Derived.Test.YtahpnfbjpdnapaaArgs
import Derived.ChangeArms
namespace Go.Proofs.Ytahpnfbjpdnapaa
open Go.ChangeShapes Go.WideShapes Go.ChangeAt Go.RowKit Go.Wire1

structure LS where
  a : Option Addr
  n : Nat
  cap : Nat
  l : List Int
def lsZ : LS := ⟨none, 0, 0, []⟩
structure LsOk (w : World) (s : LS) : Prop where
  seg : Seg w s.a s.n s.l
  byt : Byt s.l
  cap : s.n ≤ s.cap
  top : s.cap ≤ 140737488351232
  nil : s.a = none → s.n = 0 ∧ s.cap = 0
structure LSeg (w : World) (a : Option Addr) (n : Nat) (ls : List LS) : Prop where
  len : ls.length = n
  top : n * 24 ≤ 140737488351232
  at_ : 0 < n → ∃ b off, a = some ⟨b, off, none⟩ ∧ ∀ i, i < n → w.cell? ⟨b, off + i, none⟩ = some (.slice (ls.getD i lsZ).a (ls.getD i lsZ).n (ls.getD i lsZ).cap)
  ok : ∀ i, i < n → LsOk w (ls.getD i lsZ)
theorem LsOk.below {w w' : World} {s : LS} {B : Nat} (h : LsOk w s) (hb : Below B w w') (hB : w.heap.size ≤ B) : LsOk w' s := ⟨h.seg.below hb hB, h.byt, h.cap, h.top, h.nil⟩

theorem weights_allL {H : Type} {P : Program} {e : TypeId} {d : DataW H} : ∀ {es : List (DataW H)}, d ∈ es → ∀ m ∈ d.weights P e, m ∈ DataW.weightsAll P e es
  | [], h, _, _ => by cases h
  | c :: r, h, m, hm => by
    unfold DataW.weightsAll
    rcases List.mem_cons.1 h with h | h
    · subst h; exact List.mem_append_left _ hm
    · exact List.mem_append_right _ (weights_allL h m hm)
theorem nil_bytes {H : Type} {enc : TypeId × Value → H} {W : World} {fuel : Nat} {a : Option Addr} {len cap : Nat} {x : DataW H × List MemPlace}
    (h : DataW.trod enc Try.prog W 0 (fun _ => true) true fuel 27 [.slice a len cap] = some x) : a = none → len = 0 ∧ cap = 0 := by
  rcases DataW.trod_slice Try.underlying27 h with ⟨hcs, _⟩ | ⟨ad, len', cap', elems, rest, n, _, hcs, _⟩
  · simp only [List.cons.injEq, Value.slice.injEq, and_true] at hcs
    exact fun _ => ⟨hcs.2.1, hcs.2.2⟩
  · simp only [List.cons.injEq, Value.slice.injEq, and_true] at hcs
    exact fun e => by rw [hcs.1] at e; cases e
theorem cellsL : Try.prog.cellsOf 27 = 1 := by kernel_rfl
theorem bytesL : Try.prog.bytesOf 27 = 24 := by kernel_rfl

set_option maxRecDepth 100000 in
theorem open_lists {H : Type} {enc : TypeId × Value → H} {W : World} {fuel : Nat} {a : Option Addr} {len cap : Nat} {x : DataW H × List MemPlace}
    (h : DataW.trod enc Try.prog W 0 (fun _ => true) true fuel 26 [.slice a len cap] = some x)
    (hw : ∀ m ∈ x.1.weights Try.prog 26, m ≤ reachBytes) : ∃ l, LSeg W a len l ∧ len ≤ cap := by
  rcases DataW.trod_slice Try.underlying26 h with ⟨hcs, _⟩ | ⟨ad, len', cap', elems, rest, n, _, hcs, hx, _, hl, hm, hlen, hel, hsp, _⟩
  · simp only [List.cons.injEq, Value.slice.injEq, and_true] at hcs
    obtain ⟨rfl, rfl, rfl⟩ := hcs
    exact ⟨[], ⟨rfl, by omega, (fun h => by omega), fun i hi => by omega⟩, by omega⟩
  · simp only [List.cons.injEq, Value.slice.injEq, and_true] at hcs
    obtain ⟨rfl, rfl, rfl⟩ := hcs
    rw [cellsL] at hel
    have hwt : x.1.weights Try.prog 26 = ((elems.map (·.1)).length + (rest.map (·.1)).length) * Try.prog.bytesOf 27 :: (DataW.weightsAll Try.prog 27 (elems.map (·.1)) ++ DataW.weightsAll Try.prog 27 (rest.map (·.1))) := by
      rw [hx]
      show DataW.weights Try.prog 26 (.slice _ _) = _
      unfold DataW.weights
      rw [Try.underlying26]
    rw [hwt] at hw
    have hcapw : len * 24 ≤ 140737488351232 := by
      have h1 := hw _ List.mem_cons_self
      rw [bytesL, List.length_map, List.length_map, hlen, (hsp rfl).1] at h1
      simp only [reachBytes] at h1
      have : len + (cap - len) = cap := by omega
      rw [this] at h1
      exact Nat.le_trans (Nat.mul_le_mul_right 24 hl) h1
    have each : ∀ i, i < len → ∃ o : LS, LsOk W o ∧ W.cells? 0 (ad.add (i * 1)) 1 = some [.slice o.a o.n o.cap] := fun i hi => by
      have h1 := hel i hi
      have hge : elems[i]? = some elems[i] := List.getElem?_eq_getElem (by omega)
      rw [hge, Option.bind_eq_some_iff] at h1
      obtain ⟨cs, hc, ht⟩ := h1
      obtain ⟨la, ln, lc, rfl, hnil⟩ : ∃ la ln lc, cs = [.slice la ln lc] ∧ (la = none → ln = 0 ∧ lc = 0) := by
        rcases DataW.trod_slice Try.underlying27 ht with ⟨e, _⟩ | ⟨ad', l', c', _, _, _, _, e, _⟩
        · exact ⟨none, 0, 0, e, fun _ => ⟨rfl, rfl⟩⟩
        · exact ⟨_, _, _, e, fun h => by cases h⟩
      obtain ⟨l, hseg, hbyt, hcap, hdat⟩ := open_bytes ht
      refine ⟨⟨la, ln, lc, l⟩, ⟨hseg, hbyt, hcap, ?_, hnil⟩, hc⟩
      rcases hdat with ⟨_, _, e⟩ | ⟨es, sp, hd, he, hcc⟩
      · show lc ≤ _; omega
      · have hmem : elems[i].1 ∈ elems.map (·.1) := List.mem_map_of_mem (List.getElem_mem _)
        have hwi : lc ∈ (elems[i].1).weights Try.prog 27 := by
          rw [hd]
          show lc ∈ DataW.weights Try.prog 27 (.slice _ _)
          unfold DataW.weights
          rw [Try.underlying27, hcc]
          show lc ∈ lc * Try.prog.bytesOf 5 :: _
          rw [bytes5, Nat.mul_one]
          exact List.mem_cons_self
        have := hw _ (List.mem_cons_of_mem _ (List.mem_append_left _ (weights_allL hmem _ hwi)))
        simp only [reachBytes] at this
        exact this
    have pick : ∃ f : Nat → LS, ∀ i, i < len → LsOk W (f i) ∧ W.cells? 0 (ad.add (i * 1)) 1 = some [.slice (f i).a (f i).n (f i).cap] :=
      ⟨fun i => if hi : i < len then (each i hi).choose else lsZ, fun i hi => by simp only [dif_pos hi]; exact (each i hi).choose_spec⟩
    obtain ⟨f, hf⟩ := pick
    have hget : ∀ i, i < len → ((List.range len).map f).getD i lsZ = f i := fun i hi => by simp [hi]
    refine ⟨(List.range len).map f, ⟨by simp, hcapw, fun hn => ?_, fun i hi => by rw [hget i hi]; exact (hf i hi).1⟩, hl⟩
    obtain ⟨bb, off, spot⟩ := ad
    have hs0 := (World.cells?_some (hf 0 hn).2).2.2 0 (by omega)
    have hs1 : W.cell? ⟨bb, off, spot⟩ = some (.slice (f 0).a (f 0).n (f 0).cap) := by simpa [Addr.add] using hs0
    have hspot : spot = none := World.cell?_spot hs1
    subst hspot
    refine ⟨bb, off, rfl, fun i hi => ?_⟩
    rw [hget i hi]
    have hc := (World.cells?_some (hf i hi).2).2.2 0 (by omega)
    simp only [add_at, Nat.mul_one, Nat.add_zero] at hc
    exact hc
end Go.Proofs.Ytahpnfbjpdnapaa
