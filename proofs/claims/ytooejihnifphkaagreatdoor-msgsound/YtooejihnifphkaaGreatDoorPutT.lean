/- The contract of PutText: new memory that holds the length's form and the text's bytes. -/
import Derived.Test.YtooejihnifphkaaGreatDoorPut
import Derived.Lib.AppendStr
namespace Go.Proofs.YtooejihnifphkaaGreatDoor
open Go.RowKit Go.Wire1 Go.Lib

/-- A text's bytes, as numbers. -/
def txt (s : ByteArray) : List Int := s.data.toList.map fun b => (b.toNat : Int)
theorem txt_len (s : ByteArray) : (txt s).length = s.size := by
  show (s.data.toList.map _).length = s.data.size
  rw [List.length_map, Array.length_toList]
theorem txt_cells (s : ByteArray) : strCells s = (txt s).map (Value.int .u8) := by simp [strCells, txt]

set_option maxHeartbeats 1000000 in
set_option maxRecDepth 100000 in
theorem putText_any (s : ByteArray) (w : World) (hs : s.size ≤ 140737488351232) :
    Calls Tryz.prog 151 #[.string s] w fun e w' => ∃ v, e = .returned v ∧ w'.ownsRow w.heap.size 5 1 v (enc s.size ++ txt s).length ((enc s.size ++ txt s).map (Value.int .u8)) ∧ Below w.heap.size w w' := by
  obtain ⟨i0, hi, hz0, hz1, hz2⟩ := info_parts Tryz.info5
  have hle := enc_le s.size (by omega)
  go_enter Tryz.func151, Tryz.ntmps151
  go_wp2_with fail
  refine (putUint_any s.size _ (by omega)).mono ?_
  rintro e w1 ⟨v, rfl, hown, hbel⟩
  have hsz := hbel.size
  go_wp2_with (first
    | (at_builtin; refine wpList_append_own_string _ rfl _ _ 34 9 rfl w.heap.size 5 i0 Tryz.underlying34 Tryz.underlying9 hi hz0 hz1 hz2 _ _ _ rfl hown s rfl ?c1 ?c2 ?c3 ?_))
  case c1 => unfold maxLen; omega
  case c2 => omega
  case c3 => omega
  intro v' w2 hown' hgrow _
  have B2 : Below w.heap.size w w2 := hbel.grown hgrow hsz (fun j hj => (hown.lt j hj).1)
  rw [txt_cells, ← List.map_append] at hown'
  have e1 : (enc s.size).length + s.size = (enc s.size ++ txt s).length := by rw [List.length_append, txt_len]
  rw [e1] at hown'
  clear e1 hgrow hown hbel
  go_wp2
  go_ret
  exact ⟨_, rfl, hown', B2⟩
end Go.Proofs.YtooejihnifphkaaGreatDoor
