/- The order of votes and votes that don't count are not seen in what is decided, as mathematics. -/
import Derived.Test.YtfgcepnjdjjlbaaQNoM
namespace Go.Proofs.Ytfgcepnjdjjlbaa
open Go.RowKit Go.Wire1

theorem lkm_perm {α : Type} {m m' : List (Int × α)} (hn : (m.map (·.1)).Nodup) (hp : m'.Perm m) (k : Int) : lkm m' k = lkm m k := by
  have hn' : (m'.map (·.1)).Nodup := (hp.map _).nodup_iff.2 hn
  cases h : (lkm m k).isSome with
  | true =>
    obtain ⟨p, hpm, e⟩ := List.mem_map.1 (lkm_mem.1 h)
    rw [← e, lkm_at hn hpm, lkm_at hn' (hp.mem_iff.2 hpm)]
  | false =>
    have h' : (lkm m' k).isSome = false := by
      cases h2 : (lkm m' k).isSome with
      | false => rfl
      | true =>
        have := lkm_mem.2 ((hp.map (·.1)).mem_iff.1 (lkm_mem.1 h2))
        rw [this] at h; cases h
    have e1 : lkm m k = none := by cases h3 : lkm m k with
      | none => rfl
      | some v => rw [h3] at h; cases h
    have e2 : lkm m' k = none := by cases h3 : lkm m' k with
      | none => rfl
      | some v => rw [h3] at h'; cases h'
    rw [e1, e2]
theorem ansQ_same {α : Type} {m m' : List (Int × α)} (h : ∀ k, lkm m' k = lkm m k) : ansQ m' = ansQ m := by
  unfold ansQ
  congr 1
  funext i
  exact h _
theorem tal_perm (ok : Vt → Bool) (n slf : Int) {vs ws : List Vt} (hn : (vs.map (·.fr)).Nodup) (hp : ws.Perm vs) : (tal ok n slf ws).Perm (tal ok n slf vs) := by
  rw [tal_unlike _ _ _ vs hn, tal_unlike _ _ _ ws ((hp.map _).nodup_iff.2 hn)]
  exact (hp.filter _).map _
theorem dec_same {n slf seq : Int} {l : List Int} {vs ws : List Vt} (h1 : toldA n slf ws = toldA n slf vs) : fastQ n slf seq l ws = fastQ n slf seq l vs ∧ slowQ n slf seq l ws = slowQ n slf seq l vs := by
  unfold fastQ slowQ
  rw [h1]
  exact ⟨rfl, rfl⟩
theorem plan_same {n slf : Int} {vs ws : List Vt} (h1 : (talP n ws).length = (talP n vs).length) (h2 : ∀ k, lkm (talP n ws) k = lkm (talP n vs) k) : planQ n slf ws = planQ n slf vs := by
  unfold planQ
  rw [h1, ansQ_same h2, h2 slf]
theorem turned_same (n slf seq : Int) (l : List Int) {vs ws : List Vt} (hn : (vs.map (·.fr)).Nodup) (hp : ws.Perm vs) : fastQ n slf seq l ws = fastQ n slf seq l vs ∧ slowQ n slf seq l ws = slowQ n slf seq l vs ∧ planQ n slf ws = planQ n slf vs := by
  have ht := tal_perm (fun v => sndQ n v.seq v.deps) n slf hn hp
  have hd : toldA n slf ws = toldA n slf vs := by
    unfold toldA
    exact ansQ_same (lkm_perm (tk_tal _ n slf vs).nd ht)
  have hq := tal_perm (okV n) n (-1) hn hp
  exact ⟨(dec_same hd).1, (dec_same hd).2, plan_same hq.length_eq (lkm_perm (tk_tal _ n (-1) vs).nd hq)⟩
end Go.Proofs.Ytfgcepnjdjjlbaa
