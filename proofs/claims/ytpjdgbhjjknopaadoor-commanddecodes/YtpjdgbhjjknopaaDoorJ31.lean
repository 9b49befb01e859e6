/- Texts of the proof, joined. -/
import Derived.Test.YtpjdgbhjjknopaaDoorJ10
import Derived.Test.YtpjdgbhjjknopaaDoorJ14
import Derived.Lib.AppendStr
import Derived.Lib.SliceRun
/- The contracts of bytes.Clone and of NewReader. -/
namespace Go.Proofs.YtpjdgbhjjknopaaDoor
open Go.RowKit Go.Wire1 Go.Lib

set_option maxHeartbeats 1000000 in
set_option maxRecDepth 100000 in
theorem clone_any (sa : Option Addr) (n cap : Nat) (l : List Int) (w : World) (hs : Seg w sa n l) (hlen : n ≤ 140737488355328) (hnone : sa = none → n = 0) :
    Calls Tryd.prog 19 #[.slice sa n cap] w fun e w' => ∃ v, e = .returned v ∧ w'.ownsRow w.heap.size 5 1 v l.length (l.map (Value.int .u8)) ∧ Below w.heap.size w w' := by
  obtain ⟨i0, hi, hz0, hz1, hz2⟩ := info_parts Tryd.info5
  have qn : ∀ (w : World) (a : Option Addr) (n c n' c' : Nat), (binOp .eql 22 (.slice a n c) (.slice none n' c')).run Tryd.prog w = .ok (.bool a.isNone) w := fun w a n c n' c' => Lib.run_eql_slice_nil w _ _ a n c n' c' Tryd.underlying22
  cases sa with
  | none =>
    obtain rfl := hnone rfl
    obtain rfl : l = [] := List.eq_nil_of_length_eq_zero hs.1
    go_enter Tryd.func19, Tryd.ntmps19
    go_wp2
    go_ret
    exact ⟨_, rfl, World.ownsRow_nil _ _ _ _, Below.refl _ _⟩
  | some ad =>
    have hl := hide hs.1
    have ho : (w.alloc (.cells #[] 5)).ownsRow w.heap.size 5 1 (.slice (some ⟨w.heap.size, 0, none⟩) 0 0) 0 [] := World.ownsRow_made w #[] 0 (Nat.le_refl _) (by unfold maxLen; omega) rfl
    have hcells : ∀ j u, (l.map (Value.int .u8))[j]? = some u → (w.alloc (.cells #[] 5)).cell? (ad.add j) = some u := fun j u hj => by
      have hjl : j < l.length := by
        rcases Nat.lt_or_ge j l.length with h | h
        · exact h
        · simp [List.getElem?_eq_none (show (l.map (Value.int .u8)).length ≤ j by simpa using h)] at hj
      obtain ⟨b, off, e, hc⟩ := hs.2.2 (by rw [← hs.1]; omega)
      cases e
      have hcj := hc j (by rw [← hs.1]; exact hjl)
      rw [add_at, World.cell?_alloc_past _ _ _ (cell_lt hcj), hcj]
      simp [List.getElem?_eq_getElem hjl] at hj
      subst hj
      simp [List.getElem?_eq_getElem hjl]
    go_enter Tryd.func19, Tryd.ntmps19
    go_wp2_with (first
      | (at_builtin; refine wpList_append_own _ rfl _ _ 22 rfl w.heap.size 5 i0 (.int .u8 0) 1 1 Tryd.underlying22 hi hz0 hz1 hz2 rfl (by decide) _ _ _ rfl ho ad n cap (l.map (Value.int .u8)) rfl ?c0 hcells ?c2 ?c3 ?c4 ?c5 ?_))
    case c0 => rw [List.length_map, hl.out, Nat.mul_one]
    case c2 => intro u hu; obtain ⟨z, _, rfl⟩ := List.mem_map.1 hu; rfl
    case c3 => unfold maxLen; omega
    case c4 => omega
    case c5 => simp
    intro v' w2 hown' hgrow _
    have B2 : Below w.heap.size w w2 := ((Below.refl _ w).alloc (Nat.le_refl _) _).grown hgrow (by simp) (fun j hj => (ho.lt j hj).1)
    clear hgrow hcells ho
    go_wp2
    go_ret
    refine ⟨_, rfl, ?_, B2⟩
    rw [hl.out]
    simpa using hown'

/-- What a new reader is. -/
theorem rdr_new {w w1 : World} {v : Value} {l : List Int} {a : Nat → Addr} (T : TypeId) (hown : w1.ownsRow w.heap.size 5 1 v l.length (l.map (Value.int .u8))) (hbel : Below w.heap.size w w1) (he : Errs w a) (hy : Byt l) :
    ∃ sa cap, v = .slice sa l.length cap ∧ Rdr (w1.alloc (.cells #[v, .int .i64 0, .int .i64 0] T)) w1.heap.size sa l.length cap 0 0 l a := by
  obtain ⟨sa, cap, rfl, hc, hm, hs⟩ := seg_own hown
  have hA : Below w1.heap.size w1 (w1.alloc (.cells #[.slice sa l.length cap, .int .i64 0, .int .i64 0] T)) := (Below.refl _ _).alloc (Nat.le_refl _) _
  have he1 := he.below hbel (Nat.le_refl _)
  refine ⟨sa, cap, rfl, ⟨⟨⟨?_, ?_, ?_⟩, hs.below hA (Nat.le_refl _), fun x hx hn => by have := hs.lt hn hx; omega, hy, Nat.zero_le _, he1.below hA (Nat.le_refl _), by have := he1.five; omega, fun i hi => by have := he1.lt i hi; omega⟩, ?_, ?_, hc, hm⟩⟩
  · rw [World.cell?_alloc_at _ _ _ _ rfl]; rfl
  · rw [World.cell?_alloc_at _ _ _ _ rfl]; rfl
  · exact World.frozen?_alloc_at _ _ _ _ rfl
  · rw [World.cell?_alloc_at _ _ _ _ rfl]; rfl
  · exact World.frozen?_alloc_at _ _ _ _ rfl

set_option maxHeartbeats 1000000 in
set_option maxRecDepth 100000 in
theorem newReader_any (sa : Option Addr) (n cap : Nat) (l : List Int) (a : Nat → Addr) (w : World) (hs : Seg w sa n l) (hy : Byt l) (he : Errs w a) (hlen : n ≤ 140737488355328) (hnone : sa = none → n = 0) :
    Calls Tryd.prog 13 #[.slice sa n cap] w fun e w' => ∃ b sa' cap', e = .returned (.pointer (some ⟨b, 0, none⟩)) ∧ w.heap.size ≤ b ∧ Below w.heap.size w w' ∧ Rdr w' b sa' l.length cap' 0 0 l a ∧ (∀ x, sa' = some x → 0 < l.length → w.heap.size ≤ x.block) := by
  go_enter Tryd.func13, Tryd.ntmps13
  go_wp2_with fail
  refine (clone_any sa n cap l _ hs hlen hnone).mono ?_
  rintro e w1 ⟨v, rfl, hown, hbel⟩
  have hlow : ∀ x, v = .slice (some x) l.length x.off → True := fun _ _ => trivial
  clear hlow
  obtain ⟨sa', cap', rfl, hR⟩ := rdr_new 52 hown hbel he hy
  have hbase : ∀ x, sa' = some x → 0 < l.length → w.heap.size ≤ x.block := fun x hx _ => by
    subst hx; exact (hown.lt x.block rfl).1
  have B2 : Below w.heap.size w (w1.alloc (.cells #[.slice sa' l.length cap', .int .i64 0, .int .i64 0] 52)) := hbel.alloc hbel.size _
  have hsz := hbel.size
  clear hown hbel
  go_wp2
  go_ret
  exact ⟨_, _, _, rfl, hsz, B2, hR, hbase⟩
end Go.Proofs.YtpjdgbhjjknopaaDoor
