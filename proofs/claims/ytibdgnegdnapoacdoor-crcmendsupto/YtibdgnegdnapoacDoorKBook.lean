/- The statements' book of lists that were handed out: what it is in memory, and the contract of holds. -/
import Derived.Test.YtibdgnegdnapoacDoorCBytes
import Derived.Test.YtibdgnegdnapoacDoorMine
import Derived.Test.YtibdgnegdnapoacDoorStep
import Derived.Test.YtibdgnegdnapoacDoorFull
import Derived.WalkSpells
import Derived.BigRegion
namespace Go.Proofs.YtibdgnegdnapoacDoor
open Go.RowKit Go.Wire1

/-- A list that was handed out: its block, its length and room, its mark. -/
structure K5 where
  g : Nat
  n : Nat
  cap : Nat
  mark : Int
def kZ : K5 := ⟨0, 0, 0, 0⟩
def kcells (k : K5) : List Value := [.slice (some ⟨k.g, 0, none⟩) k.n k.cap, .int .u8 k.mark, .int .i64 (k.n : Int)]
/-- It lies in a block of bytes, written full with its mark. -/
def Piece (w : World) (k : K5) : Prop := ∃ cur, w.heap[k.g]? = some (.cells cur 5 (0, 0)) ∧ k.n ≤ 1000 ∧ (0 ≤ k.mark ∧ k.mark < 256) ∧ ∀ j, j < k.n → cur[j]? = some (.int .u8 k.mark)
def Book (w : World) (B : Nat) (v : Value) (ks : List K5) : Prop := w.ownsRow B 48 3 v ks.length (ks.flatMap kcells) ∧ ∀ k ∈ ks, Piece w k

theorem Piece.lt {w : World} {k : K5} (h : Piece w k) : k.g < w.heap.size := by
  obtain ⟨cur, h, _⟩ := h
  exact (Array.getElem?_eq_some_iff.1 h).1
theorem Piece.of_block {w w' : World} {k : K5} (h : Piece w k) (e : w'.heap[k.g]? = w.heap[k.g]?) : Piece w' k := by
  obtain ⟨cur, h1, h2⟩ := h
  exact ⟨cur, by rw [e]; exact h1, h2⟩
theorem Piece.below {w w' : World} {k : K5} {C : Nat} (h : Piece w k) (hb : Below C w w') (hC : w.heap.size ≤ C) : Piece w' k := h.of_block (hb.block _ (by have := h.lt; omega))
theorem Piece.cell {w : World} {k : K5} (h : Piece w k) (j : Nat) (hj : j < k.n) : w.cell? ⟨k.g, j, none⟩ = some (.int .u8 k.mark) := by
  obtain ⟨cur, h1, _, _, h3⟩ := h
  simp [World.cell?, h1, h3 j hj]
theorem own_tag {w : World} {B : Nat} {e : TypeId} {s : Nat} {v : Value} {n : Nat} {xs : List Value} (h : w.ownsRow B e s v n xs) {g : Nat} (hg : v.ownBlock = some g) : ∃ cur, w.heap[g]? = some (.cells cur e (0, 0)) := by
  rcases h.2 with ⟨rfl, _⟩ | ⟨g', cap, cur, rfl, _, hh, _⟩
  · simp [Value.ownBlock] at hg
  · simp only [Value.ownBlock, Option.some.injEq] at hg
    subst hg
    exact ⟨cur, hh⟩
theorem Piece.apart {w : World} {k : K5} {B : Nat} {s : Nat} {v : Value} {n : Nat} {xs : List Value} {e : TypeId} (h : Piece w k) (ho : w.ownsRow B e s v n xs) (he : e ≠ 5) : some k.g ≠ v.ownBlock := by
  intro e'
  obtain ⟨cur, h1, _⟩ := h
  obtain ⟨cur', h2⟩ := own_tag ho e'.symm
  rw [h1] at h2
  injection h2 with h2
  injection h2 with _ h3
  exact he h3.symm
theorem Book.below {w w' : World} {B C : Nat} {v : Value} {ks : List K5} (h : Book w B v ks) (hb : Below C w w') (hC : w.heap.size ≤ C) : Book w' B v ks := ⟨own_below h.1 hb hC, fun k hk => (h.2 k hk).below hb hC⟩
theorem Book.drewN {w : World} {B : Nat} {v : Value} {ks : List K5} (h : Book w B v ks) (q : Nat) : Book (w.drewN q) B v ks := h
theorem Book.nil (w : World) (B : Nat) : Book w B (.slice none 0 0) [] := ⟨World.ownsRow_nil _ _ _ _, fun k hk => by cases hk⟩
/-- One more in the book. -/
theorem Book.more {w w' : World} {B : Nat} {v v' : Value} {ks : List K5} {k : K5} (h : Book w B v ks) (hp : Piece w k) (ho : w'.ownsRow B 48 3 v' (ks.length + 1) (ks.flatMap kcells ++ kcells k)) (hg : w.grownBy w' v.ownBlock) : Book w' B v' (ks ++ [k]) := by
  have key : ∀ k, Piece w k → Piece w' k := fun k hk => hk.of_block (hg.block _ hk.lt (hk.apart h.1 (by decide)))
  refine ⟨by rw [List.flatMap_append, List.length_append]; simpa using ho, fun q hq => ?_⟩
  rcases List.mem_append.1 hq with h1 | h1
  · exact key q (h.2 q h1)
  · simp only [List.mem_singleton] at h1; subst h1; exact key _ hp
theorem flat_at (ks : List K5) : ∀ (i r : Nat), i < ks.length → r < 3 → (ks.flatMap kcells)[i * 3 + r]? = (kcells (ks.getD i kZ))[r]? := by
  induction ks with
  | nil => intro i r h; simp at h
  | cons k ks ih =>
    intro i r hi hr
    have hl : (kcells k).length = 3 := rfl
    rw [List.flatMap_cons]
    cases i with
    | zero => rw [Nat.zero_mul, Nat.zero_add, List.getElem?_append_left (by omega)]; rfl
    | succ i =>
      rw [List.getElem?_append_right (by omega), hl, show (i + 1) * 3 + r - 3 = i * 3 + r by omega, ih i r (by simpa using hi) hr]
      rfl
theorem Book.shape {w : World} {B : Nat} {v : Value} {ks : List K5} (h : Book w B v ks) : ∃ a cap, v = .slice a ks.length cap := own_shape h.1
theorem Book.at {w : World} {B : Nat} {a : Option Addr} {n cap : Nat} {ks : List K5} (h : Book w B (.slice a n cap) ks) {i : Nat} (hi : i < ks.length) :
    ∃ b, a = some ⟨b, 0, none⟩ ∧ w.cell? ⟨b, i * 3, none⟩ = some (.slice (some ⟨(ks.getD i kZ).g, 0, none⟩) (ks.getD i kZ).n (ks.getD i kZ).cap) ∧ w.cell? ⟨b, i * 3 + 1, none⟩ = some (.int .u8 (ks.getD i kZ).mark) ∧ w.cell? ⟨b, i * 3 + 2, none⟩ = some (.int .i64 ((ks.getD i kZ).n : Int)) ∧ Piece w (ks.getD i kZ) := by
  rcases h.1.2 with ⟨_, h0⟩ | ⟨b, cap', cur, e, hr⟩
  · omega
  · simp only [Value.slice.injEq] at e
    obtain ⟨rfl, rfl, rfl⟩ := e
    have hc := h.1.cellAt
    refine ⟨b, rfl, ?_, ?_, ?_, ?_⟩
    · rw [hc _ (by omega)]; exact flat_at ks i 0 hi (by omega)
    · rw [hc _ (by omega)]; exact flat_at ks i 1 hi (by omega)
    · rw [hc _ (by omega)]; exact flat_at ks i 2 hi (by omega)
    · rw [List.getD, List.getElem?_eq_getElem hi]; exact h.2 _ (List.getElem_mem hi)
theorem drewN_add (w : World) (d e : Nat) : (w.drewN d).drewN e = w.drewN (d + e) := by simp [World.drewN, Nat.add_assoc]
theorem Book.len {w : World} {B : Nat} {v : Value} {ks : List K5} (h : Book w B v ks) : ks.length ≤ maxLen := by
  rcases h.1.2 with ⟨_, h0⟩ | ⟨b, cap', cur, e, _, _, h1, h2, _⟩ <;> omega

set_option maxHeartbeats 1000000 in
set_option maxRecDepth 100000 in
theorem holds_any (v : Value) (ks : List K5) (B : Nat) (w : World) (hb : Book w B v ks) :
    Calls Tryd.prog 13 #[v] w fun e w' => e = .returned (.bool true) ∧ ∃ d, w' = w.drewN d := by
  obtain ⟨a, cap, rfl⟩ := hb.shape
  have HB := hide hb
  have hlen := hb.len
  unfold maxLen at hlen
  clear hb
  obtain ⟨n, hn⟩ : ∃ n, Hid (ks.length = n) := ⟨_, hide rfl⟩
  rw [hn.out] at hlen ⊢
  go_enter Tryd.func13, Tryd.ntmps13
  go_wp2_with fail
  go_loopw [3] (fun x wr => ∃ i d : Nat, x = .int .i64 (i : Int) ∧ i ≤ n ∧ wr = w.drewN d) (fun x _ => n - (intOf x).toNat)
  case atStart => exact ⟨0, 0, rfl, by omega, rfl⟩
  case round =>
    obtain ⟨i, d, rfl, hi, rfl⟩ := hrel
    by_cases hlt : i < n
    · obtain ⟨b, rfl, c0, c1, c2, hp⟩ := (HB.out.drewN d).at (i := i) (by rw [hn.out]; exact hlt)
      obtain ⟨W, hW⟩ : ∃ W, Hid (w.drewN d = W) := ⟨_, hide rfl⟩
      rw [hW.out] at c0 c1 c2 hp ⊢
      generalize ks.getD i kZ = k at *
      have HP := hide hp
      obtain ⟨cur, _, hkn, hmk, _⟩ := hp
      obtain ⟨g, kn, kc, mark⟩ := k
      simp only at *
      have hnn : (((kn : Nat) : Int) != ((kn : Nat) : Int)) = false := by simp
      go_wp2_with fail
      go_region
      go_wp2_with fail
      go_loopw [4] (fun x wr => ∃ j e : Nat, x = .int .i64 (j : Int) ∧ j ≤ kn ∧ wr = W.drewN e) (fun x _ => kn - (intOf x).toNat)
      case atStart => exact ⟨0, 1, rfl, by omega, rfl⟩
      case round =>
        obtain ⟨j, e, rfl, hj, rfl⟩ := hrel
        have d0 : (W.drewN e).cell? ⟨b, i * 3, none⟩ = _ := c0
        have d1 : (W.drewN e).cell? ⟨b, i * 3 + 1, none⟩ = _ := c1
        have d2 : (W.drewN e).cell? ⟨b, i * 3 + 2, none⟩ = _ := c2
        obtain ⟨V, hV⟩ : ∃ V, Hid (W.drewN e = V) := ⟨_, hide rfl⟩
        rw [hV.out] at d0 d1 d2 ⊢
        by_cases hjl : j < kn
        · have cj : V.cell? ⟨g, j, none⟩ = some (.int .u8 mark) := by rw [← hV.out]; exact HP.out.cell j hjl
          have hmm : (mark != mark) = false := by simp
          clear c0 c1 c2
          go_wp2_with fail
          go_region
          go_wp2
          go_roundw
          case rel => exact ⟨j + 1, e + 1, by go_num, by omega, by rw [← hV.out]; rfl⟩
          case measure => simp [intOf]; omega
        · clear c0 c1 c2
          go_wp2
          go_roundw
          case rel => exact ⟨i + 1, d + e, by go_num, by omega, by rw [← hV.out, ← hW.out]; exact drewN_add w d e⟩
          case measure => simp [intOf]; omega
    · go_wp2
      go_ret
      exact ⟨rfl, d, rfl⟩
end Go.Proofs.YtibdgnegdnapoacDoor
