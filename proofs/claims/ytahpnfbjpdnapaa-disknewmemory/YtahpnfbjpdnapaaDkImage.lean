/- The contract of the disk's Image. -/
import Derived.Test.YtahpnfbjpdnapaaDkLook
namespace Go.Proofs.Ytahpnfbjpdnapaa
open Go.RowKit Go.Wire1 Go.MuLone

theorem dsk_img {w w1 : World} {v : Value} {l : List Int} (T : TypeId) (k E0 : Nat) (hE : E0 ≤ w.heap.size) (ho : w1.ownsRow w.heap.size 5 1 v l.length (l.map (Value.int .u8))) (hsz : w.heap.size ≤ w1.heap.size) (hy : Byt l) (hk : k ≤ l.length) (ht : l.length ≤ 4194304) : Dsk 0 (w1.alloc (.cells #[.int .i32 0, .int .u32 0, v, .int .i64 (k : Int)] T)) w1.heap.size v l k E0 := by
  refine ⟨blk_new w1 T [.int .i32 0, .int .u32 0, v, .int .i64 (k : Int)], ?_, (by intro e; have := (ho.lt _ e).2; omega), hk, ht, by omega, hy⟩
  have h1 := own_other (w' := w1.alloc (.cells #[.int .i32 0, .int .u32 0, v, .int .i64 (k : Int)] T)) ho (fun j hj => Below.heap_alloc _ _ _ (ho.lt j hj).2)
  refine ⟨h1.1, h1.2.elim .inl fun ⟨g, cap, cur, e, hB, r⟩ => .inr ⟨g, cap, cur, e, by omega, r⟩⟩

set_option maxHeartbeats 1000000 in
set_option maxRecDepth 100000 in
theorem image_full (a : Option Addr) (n cap : Nat) (z : Int) (w : World) (h1 : 4194304 < n) :
    Calls Try.prog 47 #[.slice a n cap, .int .i64 z] w fun r w' => r = .returned (.tuple #[.pointer none, .int .i64 91]) ∧ Below w.heap.size w w' := by
  have q1 : (4194304 : Int) < (n : Int) := by omega
  clear h1
  go_enter Try.func47, Try.ntmps47
  go_wp2
  go_ret2
  exact ⟨rfl, Below.refl _ _⟩

set_option maxHeartbeats 1000000 in
set_option maxRecDepth 100000 in
theorem image_low (a : Option Addr) (n cap : Nat) (z : Int) (w : World) (h1 : n ≤ 4194304) (h2 : z < 0) :
    Calls Try.prog 47 #[.slice a n cap, .int .i64 z] w fun r w' => r = .returned (.tuple #[.pointer none, .int .i64 92]) ∧ Below w.heap.size w w' := by
  have q1 : ¬ ((4194304 : Int) < (n : Int)) := by omega
  clear h1
  go_enter Try.func47, Try.ntmps47
  go_wp2
  go_ret2
  exact ⟨rfl, Below.refl _ _⟩

set_option maxHeartbeats 1000000 in
set_option maxRecDepth 100000 in
theorem image_high (a : Option Addr) (n cap : Nat) (z : Int) (w : World) (h1 : n ≤ 4194304) (h2 : ¬ z < 0) (h3 : (n : Int) < z) :
    Calls Try.prog 47 #[.slice a n cap, .int .i64 z] w fun r w' => r = .returned (.tuple #[.pointer none, .int .i64 92]) ∧ Below w.heap.size w w' := by
  have q1 : ¬ ((4194304 : Int) < (n : Int)) := by omega
  clear h1
  go_enter Try.func47, Try.ntmps47
  go_wp2
  go_ret2
  exact ⟨rfl, Below.refl _ _⟩

set_option maxHeartbeats 1000000 in
set_option maxRecDepth 100000 in
theorem image_yes (a : Option Addr) (n cap k : Nat) (l : List Int) (w : World) (E0 : Nat) (hE : E0 ≤ w.heap.size) (hs : Seg w a n l) (hy : Byt l) (hnil : a = none → n = 0) (h1 : n ≤ 4194304) (hk : k ≤ n) :
    Calls Try.prog 47 #[.slice a n cap, .int .i64 (k : Int)] w fun r w' => ∃ b pv, r = .returned (.tuple #[.pointer (some ⟨b, 0, none⟩), .int .i64 0]) ∧ w.heap.size ≤ b ∧ Below w.heap.size w w' ∧ Dsk 0 w' b pv l k E0 ∧ (∀ j, pv.ownBlock = some j → w.heap.size ≤ j) := by
  have q1 : ¬ ((4194304 : Int) < (n : Int)) := by omega
  have q2 : ¬ ((k : Int) < 0) := by omega
  have q3 : ¬ ((n : Int) < (k : Int)) := by omega
  have HS := hide hs
  have HY := hide hy
  have HNI := hide hnil
  have HL := hide hs.1
  clear hs hy hnil
  go_enter Try.func47, Try.ntmps47
  go_wp2_with fail
  refine (clone_any a n cap l _ (by exact HS.out) (by omega) (by exact HNI.out)).mono ?_
  rintro e w1 ⟨v, rfl, hown, hb0⟩
  obtain ⟨sa, cap1, rfl⟩ := own_shape hown
  have D := hide (dsk_img 62 k E0 hE hown hb0.size HY.out (by rw [HL.out]; exact hk) (by rw [HL.out]; exact h1))
  have B : Hid (Below w.heap.size w (w1.alloc (.cells #[.int .i32 0, .int .u32 0, .slice sa l.length cap1, .int .i64 (k : Int)] 62))) := hb0.alloc hb0.size _
  have Z := hide hb0.size
  have V := hide (fun j hj => (hown.lt j hj).1)
  clear hown hb0
  go_wp2
  go_ret2
  exact ⟨_, _, rfl, Z.out, B.out, D.out, V.out⟩
end Go.Proofs.Ytahpnfbjpdnapaa
