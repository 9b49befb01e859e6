/- A list of votes laid behind a row of our own. -/
import Derived.Test.YtfgcepnjdjjlbaaQTurn
import Derived.Laws.AppendOwnNone
namespace Go.Proofs.Ytfgcepnjdjjlbaa
open Go.RowKit Go.Wire1

theorem flat_len {K : Nat} : ∀ (css : List (List Value)), (∀ cs ∈ css, cs.length = K) → css.flatten.length = css.length * K
  | [], _ => by simp
  | c :: r, h => by
    rw [List.flatten_cons, List.length_append, h c (List.mem_cons_self ..), flat_len r (fun cs hc => h cs (List.mem_cons_of_mem _ hc)), List.length_cons, Nat.succ_mul, Nat.add_comm]
theorem flat_cells {w : World} {ad : Addr} {n : Nat} {css : List (List Value)} (h : RowS w 15 (some ad) n css) : ∀ j u, css.flatten[j]? = some u → w.cell? (ad.add j) = some u := fun j u hj => by
  have hf : ∀ cs ∈ css, cs.length = 15 := fun cs hc => (h.fit cs hc).1
  have hlt := (List.getElem?_eq_some_iff.1 hj).1
  rw [flat_len css hf] at hlt
  have hi : j / 15 < css.length := by omega
  have hn : 0 < n := by rw [← h.len]; omega
  obtain ⟨b, off, e, hat⟩ := h.at_ hn
  obtain rfl := Option.some.inj e
  have h1 := flatK_at css hf (j / 15) (j % 15) css[j / 15] (List.getElem?_eq_getElem hi) (Nat.mod_lt _ (by decide))
  rw [show j / 15 * 15 + j % 15 = j by omega] at h1
  have := hat (j / 15) css[j / 15] (List.getElem?_eq_getElem hi) (j % 15) u (by rw [← h1]; exact hj)
  rw [Addr.add_mid, show off + j = off + j / 15 * 15 + j % 15 by omega]
  exact this
set_option maxRecDepth 100000 in
theorem wpList_append_votes {W : World} {ops : Array Oper} {rest : List Oper} {o : Oper} {a : Act} {Q : Exit → Act → World → Prop} (hgd : o.guard = none) (s x : Operand)
    (ho : o.op = .call { callee := .builtin .append, args := #[s, x], argTypes := #[25, 25] })
    (base : Nat) (v : Value) (n : Nat) (xs : List Value) (hs : a.eval s = v) (hown : W.ownsRow base 31 15 v n xs)
    (va : Option Addr) (N vc : Nat) (vs : List Vt) (hx : a.eval x = .slice va N vc) (hnil : va = none → N = 0 ∧ vc = 0) (hrow : RowS W 15 va N (vs.map vcs))
    (h63 : n + N ≤ maxLen) (hbytes : (n + N) * 168 ≤ 140737488355328) (hbase : base ≤ W.heap.size)
    (h : ∀ v' w', w'.ownsRow base 31 15 v' (n + N) (xs ++ (vs.map vcs).flatten) → W.grownBy w' v.ownBlock → wpList Try.prog ops Q rest (a.put o.dst v') w') :
    wpList Try.prog ops Q (o :: rest) a W := by
  obtain ⟨i0, hi, hz0, hz1, hz2⟩ := info_parts infoVQ
  have hl := hrow.len
  cases va with
  | none =>
    obtain ⟨rfl, rfl⟩ := hnil rfl
    have hvs : vs = [] := by rw [List.length_map] at hl; exact List.eq_nil_of_length_eq_zero hl
    subst hvs
    exact wpList_append_own_none hgd s x 25 ho base 31 i0 15 Try.underlying25 hi v n xs hs hown hx (h v W (by simpa using hown) ⟨rfl, rfl, rfl, Nat.le_refl _, fun _ _ _ => rfl⟩)
  | some ad =>
    refine wpList_append_own_at W hgd s x 25 ho base 31 i0 _ 15 168 Try.underlying25 hi hz0 hz1 hz2 (by kernel_rfl) (by decide) v n xs hs hown ad N vc (vs.map vcs).flatten hx ?_ (flat_cells hrow) ?_ h63 hbytes hbase ?_
    · rw [flat_len _ (fun cs hc => (hrow.fit cs hc).1), hl]
    · intro u hu
      obtain ⟨cs, hcs, hu2⟩ := List.mem_flatten.1 hu
      exact (hrow.fit cs hcs).2 u hu2
    · intro v' w' h1 h2 _ _
      exact h v' w' h1 h2
theorem nil_votes {H : Type} {enc : TypeId × Value → H} {W : World} {fuel : Nat} {a : Option Addr} {len cap : Nat} {x : DataW H × List MemPlace}
    (h : DataW.trod enc Try.prog W 0 (fun _ => true) true fuel 25 [.slice a len cap] = some x) : a = none → len = 0 ∧ cap = 0 := by
  intro hn
  rcases DataW.trod_slice Try.underlying25 h with ⟨hcs, _⟩ | ⟨ad, len', cap', elems, rest, n, _, hcs, hx, _, hl, hm, hlen, hel, hsp, _⟩
  · simp only [List.cons.injEq, Value.slice.injEq, and_true] at hcs
    exact ⟨hcs.2.1, hcs.2.2⟩
  · simp only [List.cons.injEq, Value.slice.injEq, and_true] at hcs
    rw [hn] at hcs
    cases hcs.1
end Go.Proofs.Ytfgcepnjdjjlbaa
