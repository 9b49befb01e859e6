/- DiskTorn's walk, more bytes appended first than a disk holds. -/
import Derived.Test.YtbgahocmabiaeaaDkTornA
namespace Go.Proofs.Ytbgahocmabiaeaa
open Go.RowKit Go.Wire1 Go.MuLone

set_option maxHeartbeats 8000000 in
set_option maxRecDepth 100000 in
theorem torn_big (ad : Addr) (n ca : Nat) (l : List Int) (pa : Option Addr) (pn pc : Nat) (ls : List LS) (kz : Int) (w : World) (hP : LSeg w pa pn ls) (_hkb : I64 kz) (hS : Seg w (some ad) n l) (hSY : Byt l) (hn47 : n ≤ 140737488351232) (hbig : 4194304 < 3 + n) :
    Calls Try.prog 4 #[.slice (some ad) n ca, .slice pa pn pc, .int .i64 kz] w fun e w' => e = .returned (.bool true) ∧ Below w.heap.size w w' := by
  have hn0 : 0 < n := by omega
  have SA := hide hS
  have HSY := hide hSY
  have HSL := hide hS.1
  clear hS hSY
  have HP := hide hP
  have hpn : pn ≤ 5864062014634 := by have := hP.top; omega
  clear hP
  have kc := fun (w : World) (C : Array Value) (n c : Nat) => Lib.run_convert_bytes_const (P := Try.prog) w 22 5 C n c Try.underlying22 Try.underlying5
  go_enter Try.func4, Try.ntmps4
  go_wp2_with fail
  refine (abc_any _ w.heap.size (Nat.le_refl _)).mono ?_
  rintro e w1 ⟨b, p1, rfl, hbl, d1, hb1, _⟩
  have D1 := hide d1
  have B1 := hide hb1
  have HBL := hide hbl
  clear d1 hb1 hbl
  go_wp2_with fail
  refine (sync_any _ b p1 [97, 98, 99] 0 _ D1.out).mono ?_
  rintro e w2 ⟨rfl, k2⟩
  have D2 := hide k2.dsk
  have B2 := hide (B1.out.trans (k2.below D1.out))
  clear k2 D1 B1
  go_wp2_with fail
  refine (append_no _ b p1 [97, 98, 99] _ _ (some ad) n ca D2.out (by show 4194304 < 3 + n; omega)).mono ?_
  rintro e w3 ⟨rfl, hb3⟩
  have D3 := hide (D2.out.later hb3)
  have B3 := hide (B2.out.trans (hb3.mono B2.out.size))
  clear hb3 D2 B2
  obtain ⟨p3, hp3⟩ : ∃ p3, p3 = p1 := ⟨_, rfl⟩
  rw [← hp3] at D3
  clear hp3
  obtain ⟨Bs, hBs⟩ : ∃ Bs : List Int, Bs = [97, 98, 99] ++ l := ⟨_, rfl⟩
  go_wp2_with fail
  refine (sync_any _ b p3 [97, 98, 99] _ _ D3.out).mono ?_
  rintro e w4 ⟨rfl, k4⟩
  have D4 := hide k4.dsk
  have B4 := hide (B3.out.trans (k4.below D3.out))
  clear k4 D3 B3
  obtain ⟨mk, hmk⟩ : ∃ mk : Nat, mk = 3 + n := ⟨_, rfl⟩
  have hbl3 : Bs.length = mk := by rw [hBs, hmk, List.length_append, HSL.out]; rfl
  have hA5 : Below w4.heap.size w4 (w4.alloc (.cells #[.int .u8 97, .int .u8 98, .int .u8 99] 5 (3, 4))) := (Below.refl _ _).alloc (Nat.le_refl _) _
  obtain ⟨g0, c0, w6, hr0, hg0, hO6, hb6⟩ := app_full9 (w4.alloc (.cells #[.int .u8 97, .int .u8 98, .int .u8 99] 5 (3, 4))) w4.heap.size 0 3 n ca ad [97, 98, 99] l (seg_three w4 97 98 99 (3, 4)) (SA.out.below (B4.out.trans (hA5.mono B4.out.size)) (Nat.le_refl _)) hn0 (by omega)
  rw [← hBs] at hO6
  rw [← hmk] at hO6 hr0
  have hg1 : w4.heap.size ≤ g0 := by have := hg0; simp only [sz_alloc] at this; omega
  have B6 := hide ((B4.out.trans (hA5.mono B4.out.size)).trans (hb6.mono (by have := B4.out.size; simp only [sz_alloc]; omega)))
  have q41 : (4194304 : Int) < (mk : Int) := by omega
  clear D4 B4 hA5 hBs hmk hbl3 hg0 hg1 hO6 hb6
  go_wp2_with (first | (at_builtin; refine Lib.wpList_append_run _ rfl _ _ _ _ rfl _ _ rfl rfl _ _ (by exact hr0 _) ?_))
  clear hr0 kc
  go_ret
  exact ⟨rfl, B6.out⟩
end Go.Proofs.Ytbgahocmabiaeaa
