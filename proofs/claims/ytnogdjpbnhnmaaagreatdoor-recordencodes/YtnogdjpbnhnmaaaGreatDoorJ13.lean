/- Texts of the proof, joined. -/
import Derived.Test.YtnogdjpbnhnmaaaGreatDoorJ02
import Derived.Test.YtnogdjpbnhnmaaaGreatDoorJ12
import Derived.Test.YtnogdjpbnhnmaaaGreatDoorJ05
import Derived.WalkLawsBesides
import Derived.Deep.QuietTactic
import Derived.BigQuiet
/- The plain mathematics of a command's bytes; nothing of the program is named here. -/
namespace Go.Wire1
open Go.RowKit

/-- A text's bytes, as numbers. -/
def tx (s : ByteArray) : List Int := s.data.toList.map fun b => (b.toNat : Int)
theorem tx_len (s : ByteArray) : (tx s).length = s.size := by
  show (s.data.toList.map _).length = s.data.size
  rw [List.length_map, Array.length_toList]
/-- A text as an item: its length, its bytes. -/
def ptx (s : ByteArray) : List Int := enc s.size ++ tx s
/-- How many bytes two texts share at their beginning. -/
def shL : List UInt8 → List UInt8 → Nat
  | a :: x, b :: y => if a = b then shL x y + 1 else 0
  | _, _ => 0
def shared (k k2 : ByteArray) : Nat := shL k.data.toList k2.data.toList
theorem shL_le : ∀ x y : List UInt8, shL x y ≤ x.length ∧ shL x y ≤ y.length
  | [], _ => by simp [shL]
  | _ :: _, [] => by simp [shL]
  | a :: x, b :: y => by
    have := shL_le x y
    simp only [shL]
    split <;> simp <;> omega
theorem shared_le (k k2 : ByteArray) : shared k k2 ≤ k.size ∧ shared k k2 ≤ k2.size := by
  have := shL_le k.data.toList k2.data.toList
  rw [← Lib.size_eq, ← Lib.size_eq] at this
  exact this
theorem shL_drop : ∀ (i : Nat) (x y : List UInt8), i < x.length → i < y.length → shL (x.drop i) (y.drop i) = if x.getD i 0 = y.getD i 0 then shL (x.drop (i + 1)) (y.drop (i + 1)) + 1 else 0 := by
  intro i x y hx hy
  rw [List.drop_eq_getElem_cons hx, List.drop_eq_getElem_cons hy, List.getD, List.getD, List.getElem?_eq_getElem hx, List.getElem?_eq_getElem hy]
  rfl
theorem shL_end (i : Nat) (x y : List UInt8) (h : x.length ≤ i ∨ y.length ≤ i) : shL (x.drop i) (y.drop i) = 0 := by
  rcases h with h | h
  · rw [List.drop_eq_nil_of_le h]; rfl
  · rw [List.drop_eq_nil_of_le h]; cases x.drop i <;> rfl

def restC (c : Cm) : List Int :=
  if 6 ≤ c.kind then enc (shared c.key c.key2) ++ ptx (c.key2.extract (shared c.key c.key2) c.key2.size)
  else if c.kind = 5 then ptx c.old ++ ptx c.val
  else if c.kind = 2 then ptx c.val
  else if c.kind = 4 then enc (zig c.n)
  else []
/-- The bytes of a command. -/
def encC (c : Cm) : List Int := if c.kind = 0 then [0] else [c.kind] ++ enc c.client.toNat ++ enc c.req.toNat ++ ptx c.key ++ restC c

theorem chk_zero {v : Int} {c : Cm} (h : chk v c = 0) : (v = 1 ∨ v = 2) ∧ isKd v c.kind = true ∧ ∀ f, f < 7 → faultF v c f = 0 := by
  unfold chk at h
  cases h1 : isVer v with
  | false => rw [h1] at h; simp at h
  | true =>
    cases h2 : isKd v c.kind with
    | false => rw [h1, h2] at h; simp at h
    | true =>
      rw [h1, h2] at h
      simp only [if_true] at h
      refine ⟨by simpa [isVer] using h1, rfl, ?_⟩
      have go : ∀ k f, firstF v c k f = 0 → ∀ j, f ≤ j → j < f + k → faultF v c j = 0 := by
        intro k
        induction k with
        | zero => intro f _ j h1 h2; omega
        | succ k ih =>
          intro f hf j h1 h2
          simp only [firstF] at hf
          by_cases h0 : faultF v c f = 0
          · rw [if_pos h0] at hf
            by_cases e : j = f
            · rw [e]; exact h0
            · exact ih (f + 1) hf j (by omega) (by omega)
          · rw [if_neg h0] at hf; exact absurd hf h0
      exact fun f hf => go 7 0 h f (by omega) (by omega)
theorem has_allow {v : Int} {c : Cm} {f : Nat} (h : faultF v c f = 0) (hf : f < 6) (hh : hasF c.kind f = true) : allowF v c f = true := by
  unfold faultF at h
  rw [hh] at h
  simp only [if_true] at h
  cases ha : allowF v c f with
  | true => rfl
  | false =>
    rw [ha] at h
    simp only [Bool.false_eq_true, if_false, errF] at h
    split at h <;> omega
/-- What a command that Check takes is. -/
structure Sound (c : Cm) : Prop where
  k0 : 0 ≤ c.kind
  k8 : c.kind ≤ 8
  client : c.kind ≠ 0 → 0 ≤ c.client ∧ c.client ≤ 65535
  req : c.kind ≠ 0 → 0 ≤ c.req ∧ c.req ≤ 1073741824
  key : c.kind ≠ 0 → 1 ≤ c.key.size ∧ c.key.size ≤ 64
  key2 : 6 ≤ c.kind → 1 ≤ c.key2.size ∧ c.key2.size ≤ 64 ∧ isPairB c.kind c.key c.key2 = true
  val : c.kind = 2 ∨ c.kind = 5 → c.val.size ≤ 65536
  old : c.kind = 5 → c.old.size ≤ 65536
theorem hasT (k : Fin 9) : (k.val ≠ 0 → hasF (k.val : Int) 0 = true ∧ hasF (k.val : Int) 1 = true ∧ hasF (k.val : Int) 2 = true) ∧ (6 ≤ k.val → hasF (k.val : Int) 3 = true) ∧ (k.val = 2 ∨ k.val = 5 → hasF (k.val : Int) 4 = true) ∧ (k.val = 5 → hasF (k.val : Int) 5 = true) := by
  revert k; decide
theorem sound_of {v : Int} {c : Cm} (h : chk v c = 0) : Sound c := by
  obtain ⟨hv, hk, hf⟩ := chk_zero h
  simp only [isKd, Bool.and_eq_true, decide_eq_true_eq] at hk
  obtain ⟨k, hkk⟩ := Int.eq_ofNat_of_zero_le hk.1
  have hk9 : k < 9 := by omega
  obtain ⟨t1, t2, t3, t4⟩ := hasT ⟨k, hk9⟩
  simp only at t1 t2 t3 t4
  rw [show ((k : Nat) : Int) = c.kind from hkk.symm] at t1 t2 t3 t4
  have hm : mostV v ≤ 65536 := by unfold mostV; split <;> omega
  refine ⟨hk.1, by omega, fun hn => ?_, fun hn => ?_, fun hn => ?_, fun hn => ?_, fun hn => ?_, fun hn => ?_⟩
  · have := has_allow (hf 0 (by omega)) (by omega) (t1 (by omega)).1
    simpa [allowF] using this
  · have := has_allow (hf 1 (by omega)) (by omega) (t1 (by omega)).2.1
    simpa [allowF] using this
  · have := has_allow (hf 2 (by omega)) (by omega) (t1 (by omega)).2.2
    simp only [allowF, isKeyB, Bool.and_eq_true, decide_eq_true_eq] at this
    exact this
  · have := has_allow (hf 3 (by omega)) (by omega) (t2 (by omega))
    simp only [allowF, isKeyB, Bool.and_eq_true, decide_eq_true_eq] at this
    exact ⟨this.1.1, this.1.2, this.2⟩
  · have := has_allow (hf 4 (by omega)) (by omega) (t3 (by omega))
    simp only [allowF, decide_eq_true_eq] at this
    omega
  · have := has_allow (hf 5 (by omega)) (by omega) (t4 (by omega))
    simp only [allowF, decide_eq_true_eq] at this
    omega
end Go.Wire1
/- One list of bytes of our own laid onto another; the contract of package command's sharedStart. -/
namespace Go.Proofs.YtnogdjpbnhnmaaaGreatDoor
open Go.RowKit Go.Wire1

theorem own_cells {w : World} {C : Nat} {u : Value} {E : List Int} (h : w.ownsRow C 5 1 u E.length (E.map (Value.int .u8))) (hE : 0 < E.length) : ∃ g cap, u = .slice (some ⟨g, 0, none⟩) E.length cap ∧ ∀ j x, (E.map (Value.int .u8))[j]? = some x → w.cell? ((⟨g, 0, none⟩ : Addr).add j) = some x := by
  obtain ⟨g, cap, rfl, hm⟩ := mine_of h hE
  refine ⟨g, cap, rfl, fun j x hx => ?_⟩
  have hj : j < E.length := by
    apply Classical.byContradiction
    intro hn
    rw [List.getElem?_eq_none (by rw [List.length_map]; omega)] at hx
    cases hx
  rw [add_at, Nat.zero_add, h.cellAt j (by omega)]
  exact hx
theorem own_more {w : World} {B B' : Nat} {e : TypeId} {s : Nat} {v : Value} {n : Nat} {xs : List Value} (h : w.ownsRow B e s v n xs) (hb : B' ≤ B) : w.ownsRow B' e s v n xs := by
  refine ⟨h.1, ?_⟩
  rcases h.2 with h2 | ⟨g, cap, cur, e1, hB, r⟩
  · exact .inl h2
  · exact .inr ⟨g, cap, cur, e1, by omega, r⟩

theorem wpList_join {w : World} {ops : Array Oper} {rest : List Oper} {o : Oper} {a : Act} {Q : Exit → Act → World → Prop} (hgd : o.guard = none) (s x : Operand)
    (ho : o.op = .call { callee := .builtin .append, args := #[s, x], argTypes := #[22, 22] })
    (B C : Nat) (v u : Value) (l E M : List Int) (hM : Hid (l ++ E = M)) (hs : a.eval s = v) (hx : a.eval x = u) (hown : w.ownsRow B 5 1 v l.length (l.map (Value.int .u8))) (hsrc : w.ownsRow C 5 1 u E.length (E.map (Value.int .u8)))
    (hE : 0 < E.length) (hlen : l.length + E.length ≤ 1000000) (hB : B ≤ w.heap.size)
    (h : ∀ v' w', w'.ownsRow B 5 1 v' M.length (M.map (Value.int .u8)) → w.grownBy w' v.ownBlock → wpList Tryz.prog ops Q rest (a.put o.dst v') w') : wpList Tryz.prog ops Q (o :: rest) a w := by
  obtain ⟨i0, hi, hz0, hz1, hz2⟩ := info_parts Tryz.info5
  obtain ⟨g, cap, rfl, hc⟩ := own_cells hsrc hE
  refine wpList_append_own w hgd s x 22 ho B 5 i0 (.int .u8 0) 1 1 Tryz.underlying22 hi hz0 hz1 hz2 rfl (by decide) v l.length (l.map (Value.int .u8)) hs hown ⟨g, 0, none⟩ E.length cap (E.map (Value.int .u8)) hx (by rw [List.length_map, Nat.mul_one]) hc ?_ ?_ ?_ hB ?_
  · intro y hy
    obtain ⟨z, _, rfl⟩ := List.mem_map.1 hy
    rfl
  · unfold maxLen; omega
  · omega
  · intro v' w' ho' hg _
    refine h v' w' ?_ hg
    rw [← hM.out, List.length_append, List.map_append]
    exact ho'

theorem tb_at (s : ByteArray) (i : Nat) (hi : i < s.size) (V : World) : (Instr.index 9 (.string s) (.int .i64 (i : Int))).run Tryz.prog V = .ok (.int .u8 ((s.data.toList.getD i 0).toNat : Int)) V := by
  rw [run_index_string V 9 s .i64 (i : Int) Tryz.underlying9, dif_pos ⟨by omega, by omega⟩]
  simp only [Int.toNat_natCast]
  rw [List.getD, List.getElem?_eq_getElem (by rw [← Lib.size_eq]; exact hi)]
  rfl

set_option maxHeartbeats 1000000 in
set_option maxRecDepth 100000 in
theorem sharedStart_any (k k2 : ByteArray) (w : World) (h1 : k.size ≤ 140737488351232) (h2 : k2.size ≤ 140737488351232) :
    Calls Tryz.prog 124 #[.string k, .string k2] w fun e w' => e = .returned (.int .i64 (shared k k2 : Nat)) ∧ ∃ q, w' = w.drewN q := by
  go_enter Tryz.func124, Tryz.ntmps124
  go_wp2_with fail
  go_loopw [5] (fun x wr => ∃ i q : Nat, x = .int .i64 (i : Int) ∧ i ≤ k.size ∧ i ≤ k2.size ∧ Hid (shared k k2 = i + shL (k.data.toList.drop i) (k2.data.toList.drop i)) ∧ wr = w.drewN q) (fun x _ => k.size - (intOf x).toNat)
  case atStart => exact ⟨0, 0, rfl, by omega, by omega, by simp [Hid, shared], rfl⟩
  case round =>
    obtain ⟨i, q, rfl, hi, hi2, HF, rfl⟩ := hrel
    have lk : Hid (k.data.toList.length = k.size) := (Lib.size_eq k).symm
    have lk2 : Hid (k2.data.toList.length = k2.size) := (Lib.size_eq k2).symm
    by_cases g1 : i < k.size
    · by_cases g2 : i < k2.size
      · have a1 := tb_at k i g1
        have a2 := tb_at k2 i g2
        have HD := hide (shL_drop i k.data.toList k2.data.toList (by rw [lk.out]; exact g1) (by rw [lk2.out]; exact g2))
        have d1 : decide ((i : Int) < (k.size : Int)) = true := decide_eq_true (by omega)
        have d2 : decide ((i : Int) < (k2.size : Int)) = true := decide_eq_true (by omega)
        generalize k.data.toList.getD i 0 = x at *
        generalize k2.data.toList.getD i 0 = y at *
        by_cases hxy : x = y
        · subst hxy
          have HN : Hid (shared k k2 = (i + 1) + shL (k.data.toList.drop (i + 1)) (k2.data.toList.drop (i + 1))) := by
            have e1 := HF.out
            rw [HD.out, if_pos rfl] at e1
            rw [e1]; exact hide (by omega)
          have hb : (((x.toNat : Nat) : Int) == ((x.toNat : Nat) : Int)) = true := by simp
          go_wp2
          go_quiet (fail)
          go_wp2
          go_roundw
          case rel => exact ⟨i + 1, _, by go_num, by omega, by omega, HN, rfl⟩
          case measure => simp [intOf]; omega
        · have HN : Hid (shared k k2 = i) := by
            have e1 := HF.out
            rw [HD.out, if_neg hxy] at e1
            exact e1
          have hb : (((x.toNat : Nat) : Int) == ((y.toNat : Nat) : Int)) = false := by
            rw [beq_eq_false_iff_ne]
            intro e
            exact hxy (UInt8.toNat_inj.1 (by omega))
          go_wp2
          go_quiet (fail)
          go_wp2
          go_ret
          exact ⟨by rw [HN.out]; rfl, _, by rw [World.drewN_drewN]⟩
      · have HN : Hid (shared k k2 = i) := by
          have e1 := HF.out
          rw [shL_end i _ _ (.inr (by rw [lk2.out]; omega))] at e1
          exact e1
        have d1 : decide ((i : Int) < (k.size : Int)) = true := decide_eq_true (by omega)
        have d2 : decide ((i : Int) < (k2.size : Int)) = false := decide_eq_false (by omega)
        go_wp2
        go_quiet (fail)
        go_wp2
        go_ret
        exact ⟨by rw [HN.out]; rfl, _, by rw [World.drewN_drewN]⟩
    · have HN : Hid (shared k k2 = i) := by
        have e1 := HF.out
        rw [shL_end i _ _ (.inl (by rw [lk.out]; omega))] at e1
        exact e1
      have d1 : decide ((i : Int) < (k.size : Int)) = false := decide_eq_false (by omega)
      go_wp2
      go_quiet (fail)
      go_wp2
      go_ret
      exact ⟨by rw [HN.out]; rfl, _, by rw [World.drewN_drewN]⟩
end Go.Proofs.YtnogdjpbnhnmaaaGreatDoor
