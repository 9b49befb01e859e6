/- Two disks beside one another, and a crash that keeps some bytes. -/
import Derived.Test.YtahpnfbjpdnapaaDkCrash
import Derived.Test.YtahpnfbjpdnapaaDkLook
namespace Go.Proofs.Ytahpnfbjpdnapaa
open Go.RowKit Go.Wire1 Go.MuLone

/-- Two disks that share nothing. -/
structure Two (w : World) (ba : Nat) (pa : Value) (la : List Int) (ma : Nat) (bb : Nat) (pb : Value) (lb : List Int) (mb E0 : Nat) : Prop where
  a : Dsk 0 w ba pa la ma E0
  b : Dsk 0 w bb pb lb mb E0
  ne : ba ≠ bb
  x : pa.ownBlock ≠ some bb
  y : pb.ownBlock ≠ some ba
  z : ∀ k, pa.ownBlock = some k → pb.ownBlock ≠ some k
theorem Two.swap {w : World} {ba bb : Nat} {pa pb : Value} {la lb : List Int} {ma mb E0 : Nat} (h : Two w ba pa la ma bb pb lb mb E0) : Two w bb pb lb mb ba pa la ma E0 :=
  ⟨h.b, h.a, fun e => h.ne e.symm, h.y, h.x, fun k hk e => h.z k e hk⟩
theorem Two.step {w w' : World} {ba bb : Nat} {pa pb pa' : Value} {la lb la' : List Int} {ma mb ma' E0 : Nat} (h : Two w ba pa la ma bb pb lb mb E0) (k : Dst 0 w w' ba pa pa' la' ma' E0) : Two w' ba pa' la' ma' bb pb lb mb E0 := by
  have hb : Dsk 0 w' bb pb lb mb E0 := h.b.on (k.tch.block bb h.b.box.lt (fun e => h.ne e.symm) (fun e => h.x e.symm)) (fun j hj => k.tch.block j (h.b.own.lt j hj).2 (fun e => h.y (by rw [hj, e])) (fun e => h.z j e.symm hj))
  refine ⟨k.dsk, hb, h.ne, ?_, h.y, ?_⟩
  · rcases k.lat with e | e
    · rw [e]; exact h.x
    · intro e2; have := e bb e2; have := h.b.box.lt; omega
  · intro j hj
    rcases k.lat with e | e
    · rw [e] at hj; exact h.z j hj
    · intro e2; have := e j hj; have := (h.b.own.lt j e2).2; omega
theorem Two.stepB {w w' : World} {ba bb : Nat} {pa pb pb' : Value} {la lb lb' : List Int} {ma mb mb' E0 : Nat} (h : Two w ba pa la ma bb pb lb mb E0) (k : Dst 0 w w' bb pb pb' lb' mb' E0) : Two w' ba pa la ma bb pb' lb' mb' E0 := (h.swap.step k).swap
theorem Two.later {w w' : World} {ba bb : Nat} {pa pb : Value} {la lb : List Int} {ma mb E0 : Nat} (h : Two w ba pa la ma bb pb lb mb E0) (hb : Below w.heap.size w w') : Two w' ba pa la ma bb pb lb mb E0 :=
  ⟨h.a.later hb, h.b.later hb, h.ne, h.x, h.y, h.z⟩
/-- A disk, and a later one. -/
theorem two_new {w w' : World} {ba bb : Nat} {pa pb : Value} {la lb : List Int} {ma mb E0 : Nat} (h : Dsk 0 w ba pa la ma E0) (hb : Below w.heap.size w w') (k : Dsk 0 w' bb pb lb mb E0) (h1 : w.heap.size ≤ bb) (h2 : ∀ j, pb.ownBlock = some j → w.heap.size ≤ j) : Two w' ba pa la ma bb pb lb mb E0 :=
  ⟨h.later hb, k, by have := h.box.lt; omega, fun e => by have := (h.own.lt _ e).2; omega, fun e => by have := h2 _ e; have := h.box.lt; omega, fun j hj e => by have := h2 _ e; have := (h.own.lt _ hj).2; omega⟩

theorem crash_yes (w : World) (b : Nat) (pv : Value) (l : List Int) (m E0 q : Nat) (h : Dsk 0 w b pv l m E0) (hq : (q : Int) ≤ 9223372036854775807) :
    Calls Try.prog 21 #[.pointer (some ⟨b, 0, none⟩), .int .i64 (q : Int)] w fun r w' => r = .returned (.int .i64 0) ∧ ∃ pv', Dst 0 w w' b pv pv' (l.take (m + min q (l.length - m))) m E0 := by
  have hle := h.le
  by_cases hk : q ≤ l.length - m
  · rw [Nat.min_eq_left hk]; exact crash_part w b pv l m E0 q h hk hq
  · rw [Nat.min_eq_right (by omega), show m + (l.length - m) = l.length by omega]; exact crash_all w b pv l m E0 q h (by omega) hq
theorem crash_twice (l : List Int) (m k q : Nat) (hm : m ≤ l.length) : ((l.take (m + min k (l.length - m))).take (m + min q ((l.take (m + min k (l.length - m))).length - m))) = l.take (m + min (min k q) (l.length - m)) := by
  rw [List.take_take, List.length_take]
  congr 1
  omega
end Go.Proofs.Ytahpnfbjpdnapaa
