/- Lists that are kept, each full of its mark; append that leaves the row it was given. -/
import Derived.Test.YtahpnfbjpdnapaaMath
import Derived.Maps.AppendAt
namespace Go
open Go.RowKit

/-- Append leaves the row that it was given as it was, up to that row's length. -/
theorem append_old {P : Program} (w : World) (base : Nat) (t ty e : TypeId) (i : TypeInfo) (z : Value) (size bytes : Nat) (ht : P.underlying t = some (.slice e)) (hi : P.info? e = some i) (hz : i.zero = some z)
    (hsize : i.size = size) (hby : i.bytes = bytes)
    (v : Value) (n : Nat) (xs : List Value) (hown : w.ownsRow base e size v n xs)
    (a : Addr) (m c : Nat) (news : List Value) (hl : news.length = m * size) (hnews : ∀ j u, news[j]? = some u → w.cell? (a.add j) = some u) (h1 : ∀ u ∈ news, u.oneCell' = true)
    (_hm : 0 < m) (h63 : n + m ≤ maxLen) (hbytes : (n + m) * bytes ≤ 140737488355328) {v' : Value} {w' : World}
    (hr : (Builtin.append_ #[t, t] ty #[v, .slice (some a) m c]).run P w = .ok v' w') : w'.ownsRow base e size v n xs := by
  subst hsize
  subst hby
  have hsmall : n + m ≤ 9223372036854775807 := by simp only [maxLen] at h63; omega
  rcases hown.2 with ⟨rfl, rfl⟩ | ⟨g, cap, cur, rfl, hbg, hg, hnc, hcm, hcs, htake⟩
  · exact ⟨hown.1, .inl ⟨rfl, rfl⟩⟩
  · by_cases hroom : n + m ≤ cap
    · have hfit : n * i.size + news.length ≤ cur.size := by rw [hl, hcs, ← Nat.add_mul]; exact Nat.mul_le_mul_right _ hroom
      have h := run_append_room (P := P) w t ty e i ht hi g n cap cur hg a m c news hl hnews h1 hroom hfit
      rw [h] at hr
      injection hr with _ hr
      subst hr
      refine ⟨hown.1, .inr ⟨g, cap, _, rfl, hbg, setRow_heap w g cur _ e _ hg, hnc, hcm, ?_, ?_⟩⟩
      · simp only [List.size_toArray, List.length_append, List.length_take, List.length_drop, Array.length_toList]
        omega
      · rw [htake, ← hown.1]
        simp only [List.append_assoc]
        exact List.take_left
    · have hcells : ∀ j u, xs[j]? = some u → w.cell? ((⟨g, 0, none⟩ : Addr).add j) = some u := hown.cells (g := g) rfl
      have h := run_append_grow (P := P) w t ty e i z ht hi hz ⟨g, 0, none⟩ n cap xs hown.1 hcells a m c news hl hnews (by omega) (by omega) (growslice_fits (by omega) hbytes)
      rw [h] at hr
      injection hr with _ hr
      subst hr
      refine ⟨hown.1, .inr ⟨g, cap, cur, rfl, hbg, ?_, hnc, hcm, hcs, htake⟩⟩
      rw [heap_alloc_old w.drew _ (Array.getElem?_eq_some_iff.1 hg).1]
      exact hg

theorem wpList_append_own3 {P : Program} {w : World} {ops : Array Oper} {rest : List Oper} {o : Oper} {a : Act} {Q : Exit → Act → World → Prop} (hgd : o.guard = none) (s x : Operand) (t : TypeId)
    (ho : o.op = .call { callee := .builtin .append, args := #[s, x], argTypes := #[t, t] })
    (base : Nat) (e : TypeId) (i : TypeInfo) (z : Value) (size bytes : Nat) (ht : P.underlying t = some (.slice e)) (hi : P.info? e = some i) (hz : i.zero = some z)
    (hsize : i.size = size) (hby : i.bytes = bytes) (hzs : z.cells.size = size) (hsz : 0 < size)
    (v : Value) (n : Nat) (xs : List Value) (hs : a.eval s = v) (hown : w.ownsRow base e size v n xs)
    (ad : Addr) (m c : Nat) (news : List Value) (hx : a.eval x = .slice (some ad) m c) (hl : news.length = m * size) (hnews : ∀ j u, news[j]? = some u → w.cell? (ad.add j) = some u) (h1 : ∀ u ∈ news, u.oneCell' = true)
    (hm : 0 < m) (h63 : n + m ≤ maxLen) (hbytes : (n + m) * bytes ≤ 140737488355328) (hbase : base ≤ w.heap.size)
    (h : ∀ v' w', w'.ownsRow base e size v' (n + m) (xs ++ news) → w.grownBy w' v.ownBlock → (v'.ownBlock = v.ownBlock ∨ v'.ownBlock = some w.heap.size) → w'.ownsRow base e size v n xs → wpList P ops Q rest (a.put o.dst v') w') : wpList P ops Q (o :: rest) a w := by
  refine wpList_plain hgd fun K hK => ?_
  obtain ⟨v', w', hr, h2, h3, _, h4⟩ := run_append_own_at (P := P) w base t o.type e i z size bytes ht hi hz hsize hby hzs hsz v n xs hown ad m c news hl hnews h1 h63 hbytes hbase
  have h5 := append_old (P := P) w base t o.type e i z size bytes ht hi hz hsize hby v n xs hown ad m c news hl hnews h1 hm h63 hbytes hr
  unfold Oper.wp execOp
  simp only [ho, resolve, invoke, builtin, Sem.run_bind, Sem.run_pure, Result.andThen_ok, List.map_toArray, List.map_cons, List.map_nil, hs, hx, hr]
  exact hK _ _ (h v' w' h2 h3 h4 h5)
end Go
namespace Go.Proofs.Ytahpnfbjpdnapaa
open Go.RowKit Go.Wire1

/-- Two rows at one block, the one the other's beginning. -/
theorem own_prefix {w w1 : World} {B : Nat} {e : TypeId} {v vv : Value} {n i : Nat} {xs ys : List Value} (hv : w.ownsRow B e 1 v n xs) (hvv : w.ownsRow B e 1 vv (n + i) (xs ++ ys)) (same : vv.ownBlock = v.ownBlock) (h1 : w1.ownsRow B e 1 vv (n + i) (xs ++ ys)) : w1.ownsRow B e 1 v n xs := by
  have hl := hv.1
  rcases hv.2 with ⟨rfl, rfl⟩ | ⟨g, cap, cur, rfl, hbg, hg, hnc, hcm, hcs, htake⟩
  · exact ⟨hl, .inl ⟨rfl, rfl⟩⟩
  · rcases hvv.2 with ⟨rfl, _⟩ | ⟨g', cap', cur', rfl, hbg', hg', hnc', hcm', hcs', htake'⟩
    · simp [Value.ownBlock] at same
    · simp only [Value.ownBlock, Option.some.injEq] at same
      subst same
      rw [hg] at hg'
      injection hg' with hg'
      injection hg' with hg'
      subst hg'
      have hc : cap = cap' := by omega
      subst hc
      rcases h1.2 with ⟨h2, _⟩ | ⟨g2, cap2, cur2, h2, hbg2, hg2, hnc2, hcm2, hcs2, htake2⟩
      · cases h2
      · simp only [Value.slice.injEq, Option.some.injEq, Addr.mk.injEq, and_true, true_and] at h2
        obtain ⟨rfl, rfl⟩ := h2
        refine ⟨hl, .inr ⟨_, _, cur2, rfl, hbg2, hg2, hnc, hcm, hcs2, ?_⟩⟩
        have : (cur2.toList.take ((n + i) * 1)).take (n * 1) = xs := by
          rw [htake2, ← hl]; exact List.take_left
        rwa [List.take_take, Nat.min_eq_left (by omega)] at this

/-- A list that is kept. -/
structure KP where
  a : Option Addr
  n : Nat
  cap : Nat
  mark : Int
def kpZ : KP := ⟨none, 0, 0, 0⟩
def kpv (k : KP) : Value := .slice k.a k.n k.cap
def kpm (kd : IntKind) (k : KP) : Value := .int kd k.mark
/-- It holds its mark and nothing else. -/
def FullK (kd : IntKind) (w : World) (k : KP) : Prop := k.n ≤ maxLen ∧ (0 < k.n → ∃ g, k.a = some ⟨g, 0, none⟩ ∧ ∀ j, j < k.n → w.cell? ⟨g, j, none⟩ = some (.int kd k.mark))

theorem own_block {w w' : World} {B : Nat} {e : TypeId} {s : Nat} {v : Value} {n : Nat} {xs : List Value} (h : w.ownsRow B e s v n xs) (hb : ∀ b, v.ownBlock = some b → w'.heap[b]? = w.heap[b]?) : w'.ownsRow B e s v n xs := by
  refine ⟨h.1, ?_⟩
  rcases h.2 with h2 | ⟨g, cap, cur, rfl, hB, hh, r⟩
  · exact .inl h2
  · exact .inr ⟨g, cap, cur, rfl, hB, by rw [hb g rfl]; exact hh, r⟩
theorem FullK.of_block {kd : IntKind} {w w' : World} {k : KP} (h : FullK kd w k) (hb : 0 < k.n → ∀ a, k.a = some a → w'.heap[a.block]? = w.heap[a.block]?) : FullK kd w' k := by
  refine ⟨h.1, fun hn => ?_⟩
  obtain ⟨g, e, hc⟩ := h.2 hn
  refine ⟨g, e, fun j hj => ?_⟩
  have hq : w'.heap[g]? = w.heap[g]? := hb hn _ e
  rw [World.cell?_of_block (a := ⟨g, j, none⟩) hq]
  exact hc j hj
/-- A full row of numbers of our own is one that may be kept. -/
theorem full_own {w : World} {e : TypeId} {kd : IntKind} {a : Option Addr} {n cap : Nat} {L : List Int} {m : Int} (h : w.ownsRow 0 e 1 (.slice a n cap) n (L.map (Value.int kd))) (hL : ∀ j, j < n → L.getD j 0 = m) : FullK kd w ⟨a, n, cap, m⟩ := by
  have hl : L.length = n := by have := h.1; simpa using this
  rcases h.2 with ⟨h1, h2⟩ | ⟨g, cap', cur, h1, hB, hh, h3, h4, h5, h6⟩
  · exact ⟨by show n ≤ maxLen; omega, fun hn => by have : 0 < n := hn; omega⟩
  · simp only [Value.slice.injEq] at h1
    obtain ⟨rfl, _, rfl⟩ := h1
    refine ⟨by show n ≤ maxLen; omega, fun hn => ⟨g, rfl, fun j hj => ?_⟩⟩
    have hj' : j < n := hj
    have e2 := h.cellAt j (by omega)
    have hq := hL j hj'
    rw [e2, List.getElem?_map, List.getElem?_eq_getElem (by omega)]
    rw [List.getD, List.getElem?_eq_getElem (by omega)] at hq
    simp only [Option.getD_some] at hq
    simp [hq]
theorem at_block {a : Option Addr} {n cap : Nat} {b : Nat} {x : Addr} (ha : a = some x) (hb : (Value.slice a n cap).ownBlock = some b) : x.block = b := by
  subst ha
  simpa [Value.ownBlock] using hb
end Go.Proofs.Ytahpnfbjpdnapaa
