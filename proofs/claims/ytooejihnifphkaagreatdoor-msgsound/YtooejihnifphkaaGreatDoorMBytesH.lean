/- The contracts of the bytes methods of the shapes. -/
import Derived.Test.YtooejihnifphkaaGreatDoorMCat
namespace Go.Proofs.YtooejihnifphkaaGreatDoor
open Go.RowKit Go.Wire1

def insP (v : Int) (x y : Nat) : List Int := if v = 1 then enc x ++ enc y else enc (8 * y + x)
def balP (v : Int) (x y : Nat) : List Int := if v = 1 then enc x ++ enc y else enc (8 * x + y)
def votP (v : Int) (st : Nat) (sm : Bool) : List Int := if v = 1 then votP1 st sm else votP2 st sm
def staP (v : Int) (kd row num : Nat) : List Int := (kd : Int) :: insP v row num
theorem insP_len (v : Int) (x y : Nat) : 0 < (insP v x y).length ∧ (insP v x y).length ≤ 20 := by
  unfold insP
  have := encF_pos x; have := enc_ten x; have := enc_ten y; have := encF_pos (8 * y + x); have := enc_ten (8 * y + x)
  split
  · rw [List.length_append]; omega
  · omega
theorem balP_len (v : Int) (x y : Nat) : 0 < (balP v x y).length ∧ (balP v x y).length ≤ 20 := by
  unfold balP
  have := encF_pos x; have := enc_ten x; have := enc_ten y; have := encF_pos (8 * x + y); have := enc_ten (8 * x + y)
  split
  · rw [List.length_append]; omega
  · omega
theorem staP_len (v : Int) (kd x y : Nat) : 0 < (staP v kd x y).length ∧ (staP v kd x y).length ≤ 21 := by
  unfold staP
  have := insP_len v x y
  rw [List.length_cons]; omega
theorem votP_len (v : Int) (st : Nat) (sm : Bool) : 0 < (votP v st sm).length ∧ (votP v st sm).length ≤ 2 := by
  unfold votP votP1 votP2
  split
  · split <;> simp
  · simp
def All2 (W : World) : List Value → List (List Int) → Prop
  | [], [] => True
  | u :: us, L :: Ls => (∃ C, W.ownsRow C 5 1 u L.length (L.map (Value.int .u8))) ∧ 0 < L.length ∧ All2 W us Ls
  | _, _ => False
theorem All2.at {W : World} : ∀ {us : List Value} {Ls : List (List Int)}, All2 W us Ls → us.length = Ls.length ∧ ∀ i, i < Ls.length → (∃ C, W.ownsRow C 5 1 (us.getD i undef) (Ls.getD i []).length ((Ls.getD i []).map (Value.int .u8))) ∧ 0 < (Ls.getD i []).length
  | [], [], _ => ⟨rfl, fun i hi => by simp at hi⟩
  | u :: us, L :: Ls, h => by
    obtain ⟨h1, h2, h3⟩ := h
    obtain ⟨e, r⟩ := All2.at h3
    refine ⟨by simp [e], fun i hi => ?_⟩
    cases i with
    | zero => exact ⟨h1, h2⟩
    | succ i => exact r i (by simpa using hi)
  | [], _ :: _, h => h.elim
  | _ :: _, [], h => h.elim
theorem srcs_new {W : World} {us : List Value} {Ls : List (List Int)} (T : TypeId) (h : All2 W us Ls) : Srcs (W.alloc (.cells us.toArray T)) W.heap.size us Ls := by
  obtain ⟨e, r⟩ := h.at
  refine ⟨e, fun i hi => ?_⟩
  obtain ⟨⟨C, ho⟩, hp⟩ := r i hi
  refine ⟨?_, ⟨C, own_below ho ((Below.refl _ _).alloc (Nat.le_refl _) _) (Nat.le_refl _)⟩, hp⟩
  rw [World.cell?_alloc_at _ _ _ _ rfl]
  simp [List.getD, List.getElem?_eq_getElem (show i < us.length by omega)]
theorem attP_len (v : Int) (sq : Nat) (dl : List Int) (hp0 : 0 < (packR v dl).length) (hp1 : (packR v dl).length ≤ 1000) : 0 < (attP v sq dl).length ∧ (attP v sq dl).length ≤ 1010 := by
  unfold attP; rw [List.length_append]; have := enc_ten sq; omega
theorem lodP_len (v : Int) (c : Cm) (sq : Nat) (dl : List Int) (hz : chk v c = 0) (hp0 : 0 < (packR v dl).length) (hp1 : (packR v dl).length ≤ 1000) : 0 < (lodP v c sq dl).length ∧ (lodP v c sq dl).length ≤ 132300 := by
  unfold lodP; rw [List.length_append]; have := encC_le hz; have := attP_len v sq dl hp0 hp1; omega
end Go.Proofs.YtooejihnifphkaaGreatDoor
