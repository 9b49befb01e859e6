/- How an argument that is a list of Mendings is opened for the walks. -/
import Derived.Test.YtibdgnegdnapoacDoorArgs
import Derived.Test.YtibdgnegdnapoacDoorCrc
import Derived.ChangeArms
namespace Go.Proofs.YtibdgnegdnapoacDoor
open Go.ChangeShapes Go.WideShapes Go.ChangeAt Go.RowKit Go.Wire1 Go.Crc2

theorem bulk_pos {H : Type} (d : DataW H) : 1 ≤ Rows.uptoBulk d := by
  cases d with
  | lit l => cases l <;> simp [Rows.uptoBulk]
  | _ => simp [Rows.uptoBulk]
theorem bulk_len {H : Type} : ∀ es : List (DataW H), es.length ≤ Rows.uptoBulkAll es
  | [] => Nat.zero_le _
  | d :: r => by
    have h1 := bulk_pos d
    have h2 := bulk_len r
    show r.length + 1 ≤ Rows.uptoBulk d + Rows.uptoBulkAll r
    omega

def MSeg (w : World) (a : Option Addr) (n : Nat) (l : List (R × R)) : Prop :=
  l.length = n ∧ n ≤ maxLen ∧ (0 < n → ∃ b off, a = some ⟨b, off, none⟩ ∧ ∀ i, i < n → w.cell? ⟨b, off + i * 2, none⟩ = some (nr (l.getD i (0#32, 0#32)).1) ∧ w.cell? ⟨b, off + i * 2 + 1, none⟩ = some (nr (l.getD i (0#32, 0#32)).2))
theorem MSeg.below {w w' : World} {a : Option Addr} {n : Nat} {l : List (R × R)} {B : Nat} (h : MSeg w a n l) (hb : Below B w w') (hB : w.heap.size ≤ B) : MSeg w' a n l := by
  refine ⟨h.1, h.2.1, fun hn => ?_⟩
  obtain ⟨b, off, rfl, hc⟩ := h.2.2 hn
  refine ⟨b, off, rfl, fun i hi => ?_⟩
  have key : ∀ q v, w.cell? ⟨b, q, none⟩ = some v → w'.cell? ⟨b, q, none⟩ = some v := fun q v hv => by
    rw [hb.cell (p := ⟨b, q, none⟩) (by have := cell_lt hv; show b < B; omega)]; exact hv
  exact ⟨key _ _ (hc i hi).1, key _ _ (hc i hi).2⟩
theorem cellsM : Tryd.prog.cellsOf 29 = 2 := by kernel_rfl
theorem cellsU32 : Tryd.prog.cellsOf 22 = 1 := by kernel_rfl

set_option maxRecDepth 100000 in
theorem mend_of {H : Type} {enc : TypeId × Value → H} {W : World} {m : Nat} {cs : List Value} {x : DataW H × List MemPlace}
    (h : DataW.trod enc Tryd.prog W 0 (fun _ => true) true m 29 cs = some x) : ∃ o : R × R, cs = [nr o.1, nr o.2] := by
  obtain ⟨xs, n, _, _, hl, hx, hf⟩ := DataW.trod_struct Tryd.underlying29 h
  rw [cellsM] at hl
  match cs, hl with
  | [v0, v1], _ =>
    have hx2 : xs.length = 2 := hx
    match xs, hx2 with
    | [y0, y1], _ =>
      have g0 : DataW.trod enc Tryd.prog W 0 (fun _ => true) true n 22 (([v0, v1].drop 0).take (Tryd.prog.cellsOf 22)) = some y0 := hf 0 _ rfl
      rw [cellsU32] at g0
      have g1 : DataW.trod enc Tryd.prog W 0 (fun _ => true) true n 22 (([v0, v1].drop 1).take (Tryd.prog.cellsOf 22)) = some y1 := hf 1 _ rfl
      rw [cellsU32] at g1
      obtain ⟨k0, e0, _, w0⟩ := DataW.trod_int Tryd.underlying22 g0
      obtain ⟨k1, e1, _, w1⟩ := DataW.trod_int Tryd.underlying22 g1
      have b0 := bounds_u32 w0
      have b1 := bounds_u32 w1
      simp only [List.drop_zero, List.drop_succ_cons, List.take_succ_cons, List.take_zero, List.cons.injEq, and_true] at e0 e1
      refine ⟨(BitVec.ofNat 32 k0.toNat, BitVec.ofNat 32 k1.toNat), ?_⟩
      have r0 : ((BitVec.ofNat 32 k0.toNat).toNat : Int) = k0 := by rw [BitVec.toNat_ofNat]; omega
      have r1 : ((BitVec.ofNat 32 k1.toNat).toNat : Int) = k1 := by rw [BitVec.toNat_ofNat]; omega
      simp only [nr, r0, r1]
      rw [e0, e1]

set_option maxRecDepth 100000 in
theorem open_mends {H : Type} {enc : TypeId × Value → H} {W : World} {fuel : Nat} {a : Option Addr} {len cap : Nat} {x : DataW H × List MemPlace}
    (h : DataW.trod enc Tryd.prog W 0 (fun _ => true) true fuel 26 [.slice a len cap] = some x) : ∃ l, MSeg W a len l ∧ len ≤ Rows.uptoBulk x.1 := by
  rcases DataW.trod_slice Tryd.underlying26 h with ⟨hcs, _⟩ | ⟨ad, len', cap', elems, rest, n, _, hcs, hx, _, hl, hm, hlen, hel, _, _⟩
  · simp only [List.cons.injEq, Value.slice.injEq, and_true] at hcs
    obtain ⟨rfl, rfl, rfl⟩ := hcs
    exact ⟨[], ⟨rfl, by unfold maxLen; omega, fun h => by omega⟩, Nat.zero_le _⟩
  · simp only [List.cons.injEq, Value.slice.injEq, and_true] at hcs
    obtain ⟨rfl, rfl, rfl⟩ := hcs
    rw [cellsM] at hel
    have each : ∀ i, i < len → ∃ o : R × R, W.cells? 0 (ad.add (i * 2)) 2 = some [nr o.1, nr o.2] := fun i hi => by
      have h1 := hel i hi
      rw [List.getElem?_eq_getElem (by omega), Option.bind_eq_some_iff] at h1
      obtain ⟨cs, hc, ht⟩ := h1
      obtain ⟨o, rfl⟩ := mend_of ht
      exact ⟨o, hc⟩
    have pick : ∃ f : Nat → R × R, ∀ i, i < len → W.cells? 0 (ad.add (i * 2)) 2 = some [nr (f i).1, nr (f i).2] :=
      ⟨fun i => if hi : i < len then (each i hi).choose else (0#32, 0#32), fun i hi => by simp only [dif_pos hi]; exact (each i hi).choose_spec⟩
    obtain ⟨f, hf⟩ := pick
    refine ⟨(List.range len).map f, ⟨by simp, by omega, fun hn => ?_⟩, ?_⟩
    · obtain ⟨bb, off, spot⟩ := ad
      have hs0 := (World.cells?_some (hf 0 hn)).2.2 0 (by omega)
      have hs1 : W.cell? ⟨bb, off, spot⟩ = some (nr (f 0).1) := by simpa [Addr.add] using hs0
      have hspot : spot = none := World.cell?_spot hs1
      subst hspot
      refine ⟨bb, off, rfl, fun i hi => ?_⟩
      have hget : ((List.range len).map f).getD i (0#32, 0#32) = f i := by simp [hi]
      rw [hget]
      have hc := (World.cells?_some (hf i hi)).2.2
      simp only [add_at] at hc
      exact ⟨by simpa using hc 0 (by omega), hc 1 (by omega)⟩
    · rw [hx]
      have h1 := bulk_len (elems.map (·.1))
      rw [List.length_map] at h1
      show len ≤ Rows.uptoBulkAll (elems.map (·.1)) + Rows.uptoBulkAll (rest.map (·.1)) + 1
      omega
end Go.Proofs.YtibdgnegdnapoacDoor
