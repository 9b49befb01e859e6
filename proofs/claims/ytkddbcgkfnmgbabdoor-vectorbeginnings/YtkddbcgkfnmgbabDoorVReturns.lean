/- The contract of the statements' own returns: what is packed comes back. -/
import Derived.Test.YtkddbcgkfnmgbabDoorVUnpF
import Derived.Test.YtkddbcgkfnmgbabDoorVPackF
import Derived.Test.YtkddbcgkfnmgbabDoorVBehind
import Derived.Test.YtkddbcgkfnmgbabDoorVNum
import Derived.Test.YtkddbcgkfnmgbabDoorSameI
import Derived.Test.YtkddbcgkfnmgbabDoorOMath
namespace Go.Proofs.YtkddbcgkfnmgbabDoor
open Go.RowKit Go.Wire1

theorem own_src {w : World} {B : Nat} {v : Value} {l : List Int} (h : w.ownsRow B 5 1 v l.length (l.map (Value.int .u8))) : ∃ a cap, v = .slice a l.length cap ∧ Src a l.length cap ∧ Seg w a l.length l := by
  obtain ⟨a, cap, hv, h1, h2, h3⟩ := seg_own h
  subst hv
  refine ⟨a, cap, rfl, ?_, h3⟩
  rcases h.2 with ⟨e, h0⟩ | ⟨g, cp, cur, e, _⟩
  · injection e with e1 e2 e3
    exact .inl ⟨h0, e3⟩
  · injection e with e1 e2 e3
    exact .inr ⟨⟨g, 0, e1⟩, h1, h2⟩

set_option maxHeartbeats 2000000 in
set_option maxRecDepth 100000 in
theorem returns_any (v : Int) (ia ta : Option Addr) (n icap m tcap : Nat) (l tl : List Int) (a : Nat → Addr) (w : World) (hv : v = 1 ∨ v = 2) (hs : SegI w ia n l) (hvec : isVec l = true) (ht : Seg w ta m tl) (hty : Byt tl) (hm : m ≤ 140737488351232) (he : Errs w a) :
    Calls Tryd.prog 16 #[.int .i64 v, .slice ia n icap, .slice ta m tcap] w fun e w' => e = .returned (.bool true) ∧ Below w.heap.size w w' := by
  have HS : Hid (SegI w ia n l) := hs
  have HT : Hid (Seg w ta m tl) := ht
  have HE : Hid (Errs w a) := he
  have HY : Hid (Byt tl) := hty
  have hpp := packR_pos hv hvec
  have HPE : Hid (packE v l = 0) := packE_vec hv hvec
  have HB : Hid (upk v n (packR v l ++ tl) = .ok (l, (packR v l).length)) := by
    show _ = _
    have := upk_back (tail := tl) hv hvec
    rw [hs.1] at this
    exact this
  have HBY : Hid (Byt (packR v l ++ tl)) := byt_app (byt_packR v l) hty
  clear hs ht he hty hvec
  go_enter Tryd.func16, Tryd.ntmps16
  go_wp2_with fail
  refine (pack_seg (v := v) (l := l) (w0 := w) (Below.refl w.heap.size _) (Nat.le_refl _) HS.out rfl HPE.out rfl).mono ?_
  rintro e w1 ⟨a1, c1, rfl, hc1, -, s1, hb1, -⟩
  have B1 : Hid (Below w.heap.size w w1) := hb1
  have S1 : Hid (Seg w1 a1 (packR v l).length (packR v l)) := s1
  clear s1 hb1
  generalize packR v l = P at *
  generalize hPl : P.length = pl at *
  have hz : ((pl : Int) == 0) = false := by rw [beq_eq_false_iff_ne]; omega
  go_wp2_with fail
  refine (num_any _ _).mono ?_
  rintro e w' ⟨rfl, rfl⟩
  go_wp2_with fail
  refine (behind_own B1.out (Nat.le_refl _) S1.out (HT.out.below B1.out (Nat.le_refl _)) (by omega) rfl).mono ?_
  rintro e w2 ⟨u, rfl, hown, hb2⟩
  obtain ⟨a2, c2, hv2, hsrc2, hs2⟩ := own_src hown
  subst hv2
  have S2 : Hid (Seg w2 a2 (P ++ tl).length (P ++ tl)) := hs2
  have C2 : Hid (Src a2 (P ++ tl).length c2) := hsrc2
  have B2 : Hid (Below w.heap.size w w2) := hb2
  clear hown hs2 hsrc2 hb2 B1 S1
  generalize P ++ tl = A at *
  generalize A.length = al at *
  go_wp2_with fail
  refine (unpack_seg (v := v) (n := (n : Int)) (l := A) B2.out (Nat.le_refl _) S2.out C2.out HBY.out (HE.out.below B2.out (Nat.le_refl _)) HB.out (k := n) HS.out.1).mono ?_
  rintro e w3 ⟨a3, c3, rfl, hc3, s3, hb3, -⟩
  have B3 : Hid (Below w.heap.size w w3) := hb3
  have S3 : Hid (SegI w3 a3 n l) := s3
  simp only [upN, upE]
  clear s3 hb3 B2 S2 C2
  go_wp2_with fail
  refine (sameI_any _ _ n n _ _ l l _ S3.out (HS.out.below B3.out (Nat.le_refl _))).mono ?_
  rintro e w4 ⟨rfl, q, hq⟩
  have B4 : Hid (Below w.heap.size w w4) := by rw [hq]; exact B3.out.drewN' q
  rw [show sameB l l = true from same_yes rfl]
  clear hq B3 S3
  go_wp2_with fail
  refine (num_any _ _).mono ?_
  rintro e w' ⟨rfl, rfl⟩
  go_wp2
  go_ret
  exact ⟨rfl, B4.out⟩
end Go.Proofs.YtkddbcgkfnmgbabDoor
