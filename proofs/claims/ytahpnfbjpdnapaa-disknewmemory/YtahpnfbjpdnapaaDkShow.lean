/- The contracts of the statements' helpers num, shows, abc, begins. -/
import Derived.Test.YtahpnfbjpdnapaaDkDoes
import Derived.Test.YtahpnfbjpdnapaaCSame
import Derived.Lib.SlBytesConst
namespace Go.Proofs.Ytahpnfbjpdnapaa
open Go.RowKit Go.Wire1 Go.MuLone

set_option maxHeartbeats 400000 in
set_option maxRecDepth 100000 in
theorem num9_any (e : Int) (w : World) :
    Calls Try.prog 18 #[.int .i64 e] w fun e' w' => e' = .returned (.int .i64 e) ∧ w = w' := by
  go_enter Try.func18, Try.ntmps18
  go_wp2
  go_ret
  exact ⟨rfl, rfl⟩

theorem below_drewN' {B : Nat} {w w' : World} (h : Below B w w') (q : Nat) : Below B w (w'.drewN q) := ⟨h.os, h.tape, h.output, h.size, h.block⟩

set_option maxHeartbeats 1000000 in
set_option maxRecDepth 100000 in
theorem shows_yes (w : World) (b : Nat) (pv : Value) (l : List Int) (m E0 : Nat) (a : Option Addr) (n cap : Nat) (h : Dsk 0 w b pv l m E0) (hs : Seg w a n l) :
    Calls Try.prog 11 #[.pointer (some ⟨b, 0, none⟩), .slice a n cap, .int .i64 (m : Int)] w fun r w' => r = .returned (.bool true) ∧ Below w.heap.size w w' := by
  have HD := hide h
  have HS := hide hs
  clear h hs
  go_enter Try.func11, Try.ntmps11
  go_wp2_with fail
  refine (look_any _ b pv l m E0 HD.out).mono ?_
  rintro e w1 ⟨v, rfl, hown, hb1⟩
  have HS1 := hide (HS.out.below hb1 (Nat.le_refl _))
  obtain ⟨va, vc, rfl, _, _, sg⟩ := seg_own hown
  have SV := hide sg
  have B1 := hide hb1
  clear hown hb1 sg
  generalize l.length = ln at *
  go_wp2_with fail
  refine (same_any a va n ln cap vc l l _ HS1.out SV.out).mono ?_
  rintro e w2 ⟨rfl, q, rfl⟩
  rw [same_yes rfl]
  go_wp2
  go_ret
  exact ⟨rfl, below_drewN' B1.out q⟩

theorem sz_alloc (w : World) (o : Obj) : (w.alloc o).heap.size = w.heap.size + 1 := by simp
theorem seg_three (w : World) (x y z : Int) (fr : Nat × Nat) : Seg (w.alloc (.cells #[.int .u8 x, .int .u8 y, .int .u8 z] 5 fr)) (some ⟨w.heap.size, 0, none⟩) 3 [x, y, z] := by
  refine ⟨rfl, by unfold maxLen; omega, fun _ => ⟨_, _, rfl, fun j hj => ?_⟩⟩
  rw [Nat.zero_add, World.cell?_alloc_mark]
  match j, hj with
  | 0, _ => rfl
  | 1, _ => rfl
  | 2, _ => rfl

set_option maxHeartbeats 1000000 in
set_option maxRecDepth 100000 in
theorem abc_any (w : World) (E0 : Nat) (hE : E0 ≤ w.heap.size) :
    Calls Try.prog 5 #[] w fun r w' => ∃ b pv, r = .returned (.pointer (some ⟨b, 0, none⟩)) ∧ w.heap.size ≤ b ∧ Dsk 0 w' b pv [97, 98, 99] 0 E0 ∧ Below w.heap.size w w' ∧ (∀ j, pv.ownBlock = some j → w.heap.size ≤ j) := by
  obtain ⟨b, hb⟩ : ∃ b, b = w.heap.size := ⟨_, rfl⟩
  have HB := hide hb
  have kc := fun (w : World) (C : Array Value) (n c : Nat) => Lib.run_convert_bytes_const (P := Try.prog) w 27 5 C n c Try.underlying27 Try.underlying5
  go_enter Try.func5, Try.ntmps5
  go_wp2_with fail
  refine (new_any _ E0 hE).mono ?_
  rintro e w1 ⟨rfl, d1, hb1, hz1⟩
  rw [← hb] at d1 hb1 hz1 ⊢
  have hA : Below w1.heap.size w1 (w1.alloc (.cells #[.int .u8 97, .int .u8 98, .int .u8 99] 5 (3, 4))) := (Below.refl _ _).alloc (Nat.le_refl _) _
  have D1 := hide (d1.later hA)
  have SG := hide (seg_three w1 97 98 99 (3, 4))
  have B1 := hide (hb1.trans (hA.mono (by omega)))
  have HZ := hide hz1
  clear d1 hb1 hA hz1 hb
  go_wp2_with fail
  refine (append_some _ b _ [] 0 E0 ⟨w1.heap.size, 0, none⟩ 3 3 [97, 98, 99] D1.out SG.out (by intro z hz; simp only [List.mem_cons, List.not_mem_nil, or_false] at hz; omega) (by intro _; have := HZ.out; show w1.heap.size ≠ b; omega) (by decide)).mono ?_
  rintro e w2 ⟨rfl, pv, k⟩
  have hA2 : Below w2.heap.size w2 (w2.alloc (.cells #[.int .u8 97, .int .u8 98, .int .u8 99] 5 (3, 4))) := (Below.refl _ _).alloc (Nat.le_refl _) _
  have D2 := hide (k.dsk.later hA2)
  have SG2 := hide (seg_three w2 97 98 99 (3, 4))
  have Z2 := hide k.tch.size
  have B2 : Hid (Below b w w2) := B1.out.trans (k.tch.below (Nat.le_refl _) (fun j hj => by cases hj) (by have := HZ.out; simp only [sz_alloc]; omega))
  have V2 : Hid (∀ j, pv.ownBlock = some j → b ≤ j) := by
    show ∀ j, _
    intro j hj
    rcases k.lat with e | e
    · rw [e] at hj; cases hj
    · have := e j hj; have := HZ.out; simp only [sz_alloc] at *; omega
  have B3 := hide (B2.out.trans (hA2.mono (by have := B2.out.size; have := HB.out; omega)))
  clear k hA2 D1 SG B1
  go_wp2_with fail
  refine (shows_yes _ b pv _ 0 E0 _ 3 3 D2.out SG2.out).mono ?_
  rintro e w3 ⟨rfl, hb3⟩
  have D3 := hide (D2.out.later hb3)
  have B4 := hide (B3.out.trans (hb3.mono (by have := B2.out.size; have := HB.out; simp only [sz_alloc]; omega)))
  clear hb3
  go_wp2_with fail
  refine (num9_any 0 _).mono ?_
  rintro e w4 ⟨rfl, rfl⟩
  go_wp2
  go_ret
  rw [← HB.out]
  exact ⟨_, _, rfl, Nat.le_refl _, D3.out, B4.out, V2.out⟩
end Go.Proofs.Ytahpnfbjpdnapaa
