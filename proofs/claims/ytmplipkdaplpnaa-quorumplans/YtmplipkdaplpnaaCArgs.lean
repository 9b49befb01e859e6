/- How an argument that is a command is opened for the walks. -/
import Derived.Test.YtmplipkdaplpnaaRows
import Derived.Test.YtmplipkdaplpnaaMath
import Derived.WalkKit
import Derived.ProofKit
import Derived.OpenShut
import Derived.ShutString
import Derived.ChangeOld
import Derived.Below
import Derived.SizedLaws
import Derived.Lib.SmallJoins
namespace Go.Proofs.Ytmplipkdaplpnaa
open Go.ChangeShapes Go.WideShapes Go.ChangeAt Go.RowKit Go.Wire1

theorem cown : ownKnob Try.prog.godebug = none := by kernel_rfl
theorem claid : laidOutB Try.prog = true := by kernel_rfl
theorem ccellsC : Try.prog.cellsOf 31 = 8 := by kernel_rfl
theorem array8 {α : Type} {a : Array α} (h : a.size = 8) : ∃ c0 c1 c2 c3 c4 c5 c6 c7, a = #[c0, c1, c2, c3, c4, c5, c6, c7] := by
  obtain ⟨l⟩ := a
  simp only [List.size_toArray] at h
  match l, h with
  | [c0, c1, c2, c3, c4, c5, c6, c7], _ => exact ⟨c0, c1, c2, c3, c4, c5, c6, c7, rfl⟩

set_option maxRecDepth 100000 in
theorem copen_cmd {H : Type} {enc : TypeId × Value → H} {W : World} {b0 : Nat} {v : Value} {d : DataW H} {p : List MemPlace}
    (hv : Value.okWide Try.prog W .any b0 31 v) (h : DataW.Trod enc Try.prog W 0 (fun _ => true) true 31 v d p) :
    ∃ (kind client req : Int) (key key2 val old : ByteArray) (n : Int), v = .agg #[.int .i64 kind, .int .i64 client, .int .i64 req, .string key, .string key2, .string val, .string old, .int .i64 n] ∧
      d = .agg [.lit (.int .i64 kind), .lit (.int .i64 client), .lit (.int .i64 req), .lit (.string key.data.toList), .lit (.string key2.data.toList), .lit (.string val.data.toList), .lit (.string old.data.toList), .lit (.int .i64 n)] ∧
      (-9223372036854775808 ≤ kind ∧ kind ≤ 9223372036854775807) ∧ (-9223372036854775808 ≤ client ∧ client ≤ 9223372036854775807) ∧ (-9223372036854775808 ≤ req ∧ req ≤ 9223372036854775807) ∧ (-9223372036854775808 ≤ n ∧ n ≤ 9223372036854775807) := by
  obtain ⟨cs, rfl, hsz⟩ := okWide_struct Try.underlying31 hv
  obtain ⟨c0, c1, c2, c3, c4, c5, c6, c7, rfl⟩ := array8 (hsz.trans ccellsC)
  obtain ⟨fuel, hf⟩ := h
  obtain ⟨xs, n, _, hx, _, hlen, hf⟩ := DataW.trod_struct Try.underlying31 hf
  have ci : Try.prog.cellsOf 3 = 1 := by kernel_rfl
  have cj : Try.prog.cellsOf 2 = 1 := by kernel_rfl
  have ct : Try.prog.cellsOf 9 = 1 := by kernel_rfl
  match xs, hlen with
  | [y0, y1, y2, y3, y4, y5, y6, y7], _ =>
    have t0 : DataW.trod enc Try.prog W 0 (fun _ => true) true n 3 (([c0, c1, c2, c3, c4, c5, c6, c7].drop 0).take (Try.prog.cellsOf 3)) = some y0 := hf 0 _ rfl
    rw [ci] at t0
    have t1 : DataW.trod enc Try.prog W 0 (fun _ => true) true n 3 (([c0, c1, c2, c3, c4, c5, c6, c7].drop 1).take (Try.prog.cellsOf 3)) = some y1 := hf 1 _ rfl
    rw [ci] at t1
    have t2 : DataW.trod enc Try.prog W 0 (fun _ => true) true n 3 (([c0, c1, c2, c3, c4, c5, c6, c7].drop 2).take (Try.prog.cellsOf 3)) = some y2 := hf 2 _ rfl
    rw [ci] at t2
    have t3 : DataW.trod enc Try.prog W 0 (fun _ => true) true n 9 (([c0, c1, c2, c3, c4, c5, c6, c7].drop 3).take (Try.prog.cellsOf 9)) = some y3 := hf 3 _ rfl
    rw [ct] at t3
    have t4 : DataW.trod enc Try.prog W 0 (fun _ => true) true n 9 (([c0, c1, c2, c3, c4, c5, c6, c7].drop 4).take (Try.prog.cellsOf 9)) = some y4 := hf 4 _ rfl
    rw [ct] at t4
    have t5 : DataW.trod enc Try.prog W 0 (fun _ => true) true n 9 (([c0, c1, c2, c3, c4, c5, c6, c7].drop 5).take (Try.prog.cellsOf 9)) = some y5 := hf 5 _ rfl
    rw [ct] at t5
    have t6 : DataW.trod enc Try.prog W 0 (fun _ => true) true n 9 (([c0, c1, c2, c3, c4, c5, c6, c7].drop 6).take (Try.prog.cellsOf 9)) = some y6 := hf 6 _ rfl
    rw [ct] at t6
    have t7 : DataW.trod enc Try.prog W 0 (fun _ => true) true n 2 (([c0, c1, c2, c3, c4, c5, c6, c7].drop 7).take (Try.prog.cellsOf 2)) = some y7 := hf 7 _ rfl
    rw [cj] at t7
    obtain ⟨k0, e0, z0, w0⟩ := DataW.trod_int Try.underlying3 t0
    obtain ⟨k1, e1, z1, w1⟩ := DataW.trod_int Try.underlying3 t1
    obtain ⟨k2, e2, z2, w2⟩ := DataW.trod_int Try.underlying3 t2
    obtain ⟨k3, e3, z3, _⟩ := DataW.trod_string Try.underlying9 t3
    obtain ⟨k4, e4, z4, _⟩ := DataW.trod_string Try.underlying9 t4
    obtain ⟨k5, e5, z5, _⟩ := DataW.trod_string Try.underlying9 t5
    obtain ⟨k6, e6, z6, _⟩ := DataW.trod_string Try.underlying9 t6
    obtain ⟨k7, e7, z7, w7⟩ := DataW.trod_int Try.underlying2 t7
    simp only [List.drop, List.take, List.cons.injEq, and_true] at e0 e1 e2 e3 e4 e5 e6 e7
    subst e0 e1 e2 e3 e4 e5 e6 e7
    subst z0 z1 z2 z3 z4 z5 z6 z7
    have b0 := bounds_i64 w0
    have b1 := bounds_i64 w1
    have b2 := bounds_i64 w2
    have b7 := bounds_i64 w7
    simp only [Prod.mk.injEq] at hx
    exact ⟨k0, k1, k2, k3, k4, k5, k6, k7, rfl, hx.1, by omega, by omega, by omega, by omega⟩

set_option maxRecDepth 100000 in
theorem csized {H : Type} {ts : List TypeId} {ds : List (DataW H)} (h : (DataW.weightsEach Try.prog ts ds).all (· ≤ reachBytes) = true) {j : Nat} {kind client req : Int} {key key2 val old : ByteArray} {n : Int} (ht : ts[j]? = some 31)
    (hd : ds[j]? = some (.agg [.lit (.int .i64 kind), .lit (.int .i64 client), .lit (.int .i64 req), .lit (.string key.data.toList), .lit (.string key2.data.toList), .lit (.string val.data.toList), .lit (.string old.data.toList), .lit (.int .i64 n)])) :
    key.size ≤ 140737488351232 ∧ key2.size ≤ 140737488351232 ∧ val.size ≤ 140737488351232 ∧ old.size ≤ 140737488351232 := by
  have go : ∀ s : ByteArray, s.data.toList.length ∈ DataW.weights (H := H) Try.prog 31 (.agg [.lit (.int .i64 kind), .lit (.int .i64 client), .lit (.int .i64 req), .lit (.string key.data.toList), .lit (.string key2.data.toList), .lit (.string val.data.toList), .lit (.string old.data.toList), .lit (.int .i64 n)]) → s.size ≤ 140737488351232 := by
    intro s hs
    have h1 : s.data.toList.length ≤ reachBytes := of_decide_eq_true (List.all_eq_true.1 h _ (DataW.weights_mem_each ht hd _ hs))
    rw [Array.length_toList] at h1
    unfold reachBytes at h1
    show s.data.size ≤ _
    exact h1
  refine ⟨go key ?_, go key2 ?_, go val ?_, go old ?_⟩ <;> simp [DataW.weights, Try.underlying31, DataW.weightsEach]
end Go.Proofs.Ytmplipkdaplpnaa
