/- The statements' pair of disks: what a step leaves, how both disks' steps go together. -/
import Derived.Test.YtahpnfbjpdnapaaDkPimY
import Derived.Test.YtahpnfbjpdnapaaDkRMeth
namespace Go.Proofs.Ytahpnfbjpdnapaa
open Go.RowKit Go.Wire1 Go.MuLone

/-- What a step of the pair leaves: a pair, and what plays no part in it as it was. -/
structure Stp9 (w w' : World) (ro : Nat → Nat) (o pb E0 : Nat) : Prop where
  ex : ∃ ro' b rb pv sv tv rv S T R, (∀ k, k < w.heap.size → ro' k = ro k) ∧ Par w' ro' o pb b rb pv sv tv rv S T R E0
  os : w'.os = w.os
  tape : w'.tape = w.tape
  output : w'.output = w.output
  size : w.heap.size ≤ w'.heap.size
  keep : ∀ k, k < w.heap.size → (ro k < o + 1 ∨ o + 4 < ro k) → w'.heap[k]? = w.heap[k]?
section
variable {w w1 w2 w' : World} {ro : Nat → Nat} {o pb b rb : Nat} {pv sv tv rv : Value} {S T R : List Int} {E0 : Nat}
theorem Par.rfree (h : Par w ro o pb b rb pv sv tv rv S T R E0) {k : Nat} (e : ro k ≠ o + 3) : k ≠ rb ∧ sv.ownBlock ≠ some k ∧ tv.ownBlock ≠ some k := ⟨fun h1 => e (h.q3 k (.inl h1)), fun h1 => e (h.q3 k (.inr (.inl h1))), fun h1 => e (h.q3 k (.inr (.inr h1)))⟩
theorem Par.dfree (h : Par w ro o pb b rb pv sv tv rv S T R E0) {k : Nat} (e : ro k ≠ o + 2) : k ≠ b ∧ some k ≠ pv.ownBlock := ⟨fun h1 => e (h.q2 k (.inl h1)), fun h1 => e (h.q2 k (.inr h1.symm))⟩
theorem Par.rd {pv' sv' tv' : Value} {S' T' : List Int} (h : Par w ro o pb b rb pv sv tv rv S T R E0) (hr : RDst w w1 rb sv tv sv' tv' S' T' E0) (hd : Dst 0 w1 w2 b pv pv' (S' ++ T') S'.length E0) :
    ∃ ro', (∀ k, k < w.heap.size → ro' k = ro k) ∧ Par w2 ro' o pb b rb pv' sv' tv' rv S' T' R E0 ∧ (∀ k, k < w.heap.size → ro k ≠ o + 2 → ro k ≠ o + 3 → w2.heap[k]? = w.heap[k]?) := by
  have z1 := hr.size
  have z2 := hd.tch.size
  have keep : ∀ k, k < w.heap.size → ro k ≠ o + 2 → ro k ≠ o + 3 → w2.heap[k]? = w.heap[k]? := fun k hk e2 e3 => by
    obtain ⟨r1, r2, r3⟩ := h.rfree e3
    obtain ⟨d1, d2⟩ := h.dfree e2
    rw [hd.tch.block k (by omega) d1 d2, hr.block k hk r1 r2 r3]
  have onr : ∀ j, j < w1.heap.size → (j < w.heap.size → ro j = o + 3) → w2.heap[j]? = w1.heap[j]? := fun j hj e => by
    have hb := h.d.box.lt
    refine hd.tch.block j hj (fun e1 => ?_) (fun e1 => ?_)
    · have h1 := e (by omega); have h2 := h.q2 j (.inl e1); omega
    · have h0 := (h.d.own.lt j e1.symm).2; have h1 := e h0; have h2 := h.q2 j (.inr e1.symm); omega
  have ls : ∀ j, sv'.ownBlock = some j → (j < w.heap.size → ro j = o + 3) := fun j hj hlt => (hr.ls j hj).elim (fun e => h.q3 j (.inr (.inl e))) (fun e => by omega)
  have lt : ∀ j, tv'.ownBlock = some j → (j < w.heap.size → ro j = o + 3) := fun j hj hlt => (hr.lt j hj).elim (fun e => h.q3 j (.inr (.inr e))) (fun e => by omega)
  refine ⟨fun k => if k < w.heap.size then ro k else if k < w1.heap.size then o + 3 else o + 2, fun k hk => if_pos hk, ⟨?_, hd.dsk, ?_, ?_, h.byt, h.low, h.rtop, ?_, ?_, ?_, ?_⟩, keep⟩
  · exact h.box.of_block (keep pb h.box.lt (by have := h.q1; omega) (by have := h.q1; omega))
  · exact hr.rdk.on (onr rb hr.rdk.box.lt (fun _ => h.q3 rb (.inl rfl))) (fun j hj => onr j (hr.rdk.so.lt j hj).2 (ls j hj)) (fun j hj => onr j (hr.rdk.to.lt j hj).2 (lt j hj))
  · exact own_other h.room (fun j hj => keep j (h.room.lt j hj).2 (by have := h.q4 j hj; omega) (by have := h.q4 j hj; omega))
  · show (if _ then _ else _) = _
    rw [if_pos h.box.lt]; exact h.q1
  · intro k hk
    show (if _ then _ else _) = _
    by_cases hw : k < w.heap.size
    · rw [if_pos hw]
      rcases hk with e | e
      · exact h.q2 k (.inl e)
      · rcases hd.lat with e2 | e2
        · exact h.q2 k (.inr (by rw [← e2]; exact e))
        · have := e2 k e; omega
    · rw [if_neg hw]
      rcases hk with e | e
      · have := h.d.box.lt; omega
      · rcases hd.lat with e2 | e2
        · have := (h.d.own.lt k (by rw [← e2]; exact e)).2; omega
        · rw [if_neg (by have := e2 k e; omega)]
  · intro k hk
    show (if _ then _ else _) = _
    by_cases hw : k < w.heap.size
    · rw [if_pos hw]
      rcases hk with e | e | e
      · exact h.q3 k (.inl e)
      · exact ls k e hw
      · exact lt k e hw
    · rw [if_neg hw]
      rcases hk with e | e | e
      · have := h.r.box.lt; omega
      · rw [if_pos (hr.rdk.so.lt k e).2]
      · rw [if_pos (hr.rdk.to.lt k e).2]
  · intro k hk
    show (if _ then _ else _) = _
    rw [if_pos (h.room.lt k hk).2]; exact h.q4 k hk
theorem Par.dr {pv' sv' tv' : Value} {S' T' : List Int} (h : Par w ro o pb b rb pv sv tv rv S T R E0) (hd : Dst 0 w w1 b pv pv' (S' ++ T') S'.length E0) (hr : RDst w1 w2 rb sv tv sv' tv' S' T' E0) :
    ∃ ro', (∀ k, k < w.heap.size → ro' k = ro k) ∧ Par w2 ro' o pb b rb pv' sv' tv' rv S' T' R E0 ∧ (∀ k, k < w.heap.size → ro k ≠ o + 2 → ro k ≠ o + 3 → w2.heap[k]? = w.heap[k]?) := by
  have z1 := hd.tch.size
  have z2 := hr.size
  have keep : ∀ k, k < w.heap.size → ro k ≠ o + 2 → ro k ≠ o + 3 → w2.heap[k]? = w.heap[k]? := fun k hk e2 e3 => by
    obtain ⟨r1, r2, r3⟩ := h.rfree e3
    obtain ⟨d1, d2⟩ := h.dfree e2
    rw [hr.block k (by omega) r1 r2 r3, hd.tch.block k hk d1 d2]
  have ond : ∀ j, j < w1.heap.size → (j < w.heap.size → ro j = o + 2) → w2.heap[j]? = w1.heap[j]? := fun j hj e => by
    have hb := h.r.box.lt
    refine hr.block j hj (fun e1 => ?_) (fun e1 => ?_) (fun e1 => ?_)
    · have h1 := e (by omega); have h2 := h.q3 j (.inl e1); omega
    · have h0 := (h.r.so.lt j e1).2; have h1 := e h0; have h2 := h.q3 j (.inr (.inl e1)); omega
    · have h0 := (h.r.to.lt j e1).2; have h1 := e h0; have h2 := h.q3 j (.inr (.inr e1)); omega
  have lp : ∀ j, pv'.ownBlock = some j → (j < w.heap.size → ro j = o + 2) := fun j hj hlt => by
    rcases hd.lat with e2 | e2
    · exact h.q2 j (.inr (by rw [← e2]; exact hj))
    · have := e2 j hj; omega
  refine ⟨fun k => if k < w.heap.size then ro k else if k < w1.heap.size then o + 2 else o + 3, fun k hk => if_pos hk, ⟨?_, ?_, hr.rdk, ?_, h.byt, h.low, h.rtop, ?_, ?_, ?_, ?_⟩, keep⟩
  · exact h.box.of_block (keep pb h.box.lt (by have := h.q1; omega) (by have := h.q1; omega))
  · exact hd.dsk.on (ond b hd.dsk.box.lt (fun _ => h.q2 b (.inl rfl))) (fun j hj => ond j (hd.dsk.own.lt j hj).2 (lp j hj))
  · exact own_other h.room (fun j hj => keep j (h.room.lt j hj).2 (by have := h.q4 j hj; omega) (by have := h.q4 j hj; omega))
  · show (if _ then _ else _) = _
    rw [if_pos h.box.lt]; exact h.q1
  · intro k hk
    show (if _ then _ else _) = _
    by_cases hw : k < w.heap.size
    · rw [if_pos hw]
      rcases hk with e | e
      · exact h.q2 k (.inl e)
      · exact lp k e hw
    · rw [if_neg hw]
      rcases hk with e | e
      · have := h.d.box.lt; omega
      · rw [if_pos (hd.dsk.own.lt k e).2]
  · intro k hk
    show (if _ then _ else _) = _
    by_cases hw : k < w.heap.size
    · rw [if_pos hw]
      rcases hk with e | e | e
      · exact h.q3 k (.inl e)
      · exact (hr.ls k e).elim (fun e => h.q3 k (.inr (.inl e))) (fun e => by omega)
      · exact (hr.lt k e).elim (fun e => h.q3 k (.inr (.inr e))) (fun e => by omega)
    · rw [if_neg hw]
      rcases hk with e | e | e
      · have := h.r.box.lt; omega
      · rcases hr.ls k e with e2 | e2
        · have := (h.r.so.lt k e2).2; omega
        · rw [if_neg (by omega)]
      · rcases hr.lt k e with e2 | e2
        · have := (h.r.to.lt k e2).2; omega
        · rw [if_neg (by omega)]
  · intro k hk
    show (if _ then _ else _) = _
    rw [if_pos (h.room.lt k hk).2]; exact h.q4 k hk
theorem Par.lay {n : Nat} {l : List Int} {g c rn : Nat} {R' : List Int} (h : Par w ro o pb b rb pv sv tv rv S T R E0) (L : Laid9 w w' pb b rb rv n l E0 g c rn R') :
    ∃ ro', (∀ k, k < w.heap.size → ro' k = ro k) ∧ ro' g = o + 4 ∧ Par w' ro' o pb b rb pv sv tv (.slice (some ⟨g, 0, none⟩) rn c) S T R' E0 ∧ (∀ k, k < w.heap.size → ro k ≠ o + 1 → ro k ≠ o + 4 → w'.heap[k]? = w.heap[k]?) := by
  have keep : ∀ k, k < w.heap.size → ro k ≠ o + 1 → ro k ≠ o + 4 → w'.heap[k]? = w.heap[k]? := fun k hk e1 e4 => L.tch.block k hk (fun e => e1 (by rw [e]; exact h.q1)) (fun e => e4 (h.q4 k e.symm))
  have hg : (if g < w.heap.size then ro g else o + 4) = o + 4 := by
    by_cases hg : g < w.heap.size
    · rw [if_pos hg]
      rcases L.lat with e | e
      · exact h.q4 g e.symm
      · have := e g rfl; omega
    · rw [if_neg hg]
  have r2 : ∀ j, j < w.heap.size → ro j = o + 2 → w'.heap[j]? = w.heap[j]? := fun j hj e => keep j hj (by omega) (by omega)
  have r3 : ∀ j, j < w.heap.size → ro j = o + 3 → w'.heap[j]? = w.heap[j]? := fun j hj e => keep j hj (by omega) (by omega)
  refine ⟨fun k => if k < w.heap.size then ro k else o + 4, fun k hk => if_pos hk, hg, ⟨L.box, ?_, ?_, ?_, L.byt, h.low, by rw [L.mine.2.1]; exact L.top, ?_, ?_, ?_, ?_⟩, keep⟩
  · exact h.d.on (r2 b h.d.box.lt (h.q2 b (.inl rfl))) (fun j hj => r2 j (h.d.own.lt j hj).2 (h.q2 j (.inr hj)))
  · exact h.r.on (r3 rb h.r.box.lt (h.q3 rb (.inl rfl))) (fun j hj => r3 j (h.r.so.lt j hj).2 (h.q3 j (.inr (.inl hj)))) (fun j hj => r3 j (h.r.to.lt j hj).2 (h.q3 j (.inr (.inr hj))))
  · rw [L.mine.2.1]; exact L.mine.1
  · show (if _ then _ else _) = _
    rw [if_pos h.box.lt]; exact h.q1
  · intro k hk
    show (if _ then _ else _) = _
    rw [if_pos (by
      rcases hk with rfl | hk
      · exact h.d.box.lt
      · exact (h.d.own.lt k hk).2)]
    exact h.q2 k hk
  · intro k hk
    show (if _ then _ else _) = _
    rw [if_pos (by
      rcases hk with rfl | hk | hk
      · exact h.r.box.lt
      · exact (h.r.so.lt k hk).2
      · exact (h.r.to.lt k hk).2)]
    exact h.q3 k hk
  · intro k hk
    have e : g = k := Option.some.inj hk
    subst e
    exact hg
theorem Par.reroom {g c rn : Nat} {R2 : List Int} (h : Par w ro o pb b rb pv sv tv (.slice (some ⟨g, 0, none⟩) rn c) S T R E0) (ht : Tch g none w w') (hm : Mine w' E0 g rn c R2) (hy : Byt R2) : Par w' ro o pb b rb pv sv tv (.slice (some ⟨g, 0, none⟩) rn c) S T R2 E0 := by
  have hg := h.q4 g rfl
  have keep : ∀ k, k < w.heap.size → ro k ≠ o + 4 → w'.heap[k]? = w.heap[k]? := fun k hk e => ht.block k hk (fun e2 => e (by rw [e2]; exact hg)) (fun e2 => by cases e2)
  have r2 : ∀ j, j < w.heap.size → ro j = o + 2 → w'.heap[j]? = w.heap[j]? := fun j hj e => keep j hj (by omega)
  have r3 : ∀ j, j < w.heap.size → ro j = o + 3 → w'.heap[j]? = w.heap[j]? := fun j hj e => keep j hj (by omega)
  refine ⟨h.box.of_block (keep pb h.box.lt (by have := h.q1; omega)), ?_, ?_, ?_, hy, h.low, ?_, h.q1, h.q2, h.q3, h.q4⟩
  · exact h.d.on (r2 b h.d.box.lt (h.q2 b (.inl rfl))) (fun j hj => r2 j (h.d.own.lt j hj).2 (h.q2 j (.inr hj)))
  · exact h.r.on (r3 rb h.r.box.lt (h.q3 rb (.inl rfl))) (fun j hj => r3 j (h.r.so.lt j hj).2 (h.q3 j (.inr (.inl hj)))) (fun j hj => r3 j (h.r.to.lt j hj).2 (h.q3 j (.inr (.inr hj))))
  · rw [hm.2.1]; exact hm.1
  · have := h.rtop
    obtain ⟨a, c2, e⟩ := own_shape h.room
    cases e
    rw [hm.2.1]; exact h.rtop
theorem Stp9.ofImg {b' rb' : Nat} {pv' sv' tv' : Value} {S' T' : List Int} (h : Par w ro o pb b rb pv sv tv rv S T R E0) (i : Img9 w w' ro o pb b' rb' rv pv' sv' tv' S' T' E0) : Stp9 w w' ro o pb E0 := by
  obtain ⟨ro', rv', R', e, p⟩ := i.ex
  exact ⟨⟨ro', b', rb', pv', sv', tv', rv', S', T', R', e, p⟩, i.tch.os, i.tch.tape, i.tch.output, i.tch.size, fun k hk hr => i.tch.block k hk (fun e => by have := h.q1; rw [e] at hr; omega) (fun e => by have := h.q4 k e.symm; omega)⟩
theorem Stp9.ofBelow (h : Par w ro o pb b rb pv sv tv rv S T R E0) (hb : Below w.heap.size w w') : Stp9 w w' ro o pb E0 := ⟨⟨ro, b, rb, pv, sv, tv, rv, S, T, R, fun _ _ => rfl, h.later hb⟩, hb.os, hb.tape, hb.output, hb.size, fun k hk _ => hb.block k hk⟩
end
end Go.Proofs.Ytahpnfbjpdnapaa
