/- The document's own disk: size, Append, Sync, Crash. -/
import Derived.Test.YtahpnfbjpdnapaaDkRef
namespace Go.Proofs.Ytahpnfbjpdnapaa
open Go.RowKit Go.Wire1 Go.MuLone

/-- What a step of the document's own disk leaves. -/
structure RDst (w w' : World) (b : Nat) (sv tv sv' tv' : Value) (S' T' : List Int) (E0 : Nat) : Prop where
  rdk : RDk w' b sv' tv' S' T' E0
  os : w'.os = w.os
  tape : w'.tape = w.tape
  output : w'.output = w.output
  size : w.heap.size ≤ w'.heap.size
  block : ∀ k, k < w.heap.size → k ≠ b → sv.ownBlock ≠ some k → tv.ownBlock ≠ some k → w'.heap[k]? = w.heap[k]?
  ls : ∀ k, sv'.ownBlock = some k → sv.ownBlock = some k ∨ w.heap.size ≤ k
  lt : ∀ k, tv'.ownBlock = some k → tv.ownBlock = some k ∨ w.heap.size ≤ k
section
variable {w w' : World} {b : Nat} {sv tv : Value} {S T : List Int} {E0 : Nat}
theorem RDk.stay (h : RDk w b sv tv S T E0) (hb : Below w.heap.size w w') : RDst w w' b sv tv sv tv S T E0 :=
  ⟨h.later hb, hb.os, hb.tape, hb.output, hb.size, fun k hk _ _ _ => hb.block k hk, fun _ hk => .inl hk, fun _ hk => .inl hk⟩
theorem own_base {v : Value} {n : Nat} {xs : List Value} {B C : Nat} (h : w.ownsRow B 5 1 v n xs) (hC : C ≤ B) : w.ownsRow C 5 1 v n xs :=
  ⟨h.1, h.2.elim .inl fun ⟨g, cap, cur, e, hB, r⟩ => .inr ⟨g, cap, cur, e, by omega, r⟩⟩
/-- A new tail. -/
theorem RDk.tail {w1 : World} {v : Value} {T' : List Int} (h : RDk w b sv tv S T E0) (hb : Below w.heap.size w w1) (ho : w1.ownsRow w.heap.size 5 1 v T'.length (T'.map (Value.int .u8))) (ht : S.length + T'.length ≤ 4194304) : RDst w (w1.setCell ⟨b, 1, none⟩ v) b sv tv sv v S T' E0 := by
  have hl := h.box.lt
  have hlow := h.low
  have fv : v.ownBlock ≠ some b := fun e => by have := (ho.lt _ e).1; omega
  refine ⟨⟨(h.box.on hb).setAt 1 v, own_box (own_below h.so hb (Nat.le_refl _)) h.fs, own_box (own_base ho (by omega)) fv, h.fs, fv, fun k hk e => by have := (h.so.lt k hk).2; have := (ho.lt k e).1; omega, hlow, ht⟩, hb.os, hb.tape, hb.output, by simpa [World.setCell] using hb.size, fun k hk h1 _ _ => (Below.heap_setCell _ _ _ _ (by exact h1)).trans (hb.block k hk), fun _ hk => .inl hk, fun k hk => .inr (ho.lt k hk).1⟩
end

set_option maxHeartbeats 2000000 in
set_option maxRecDepth 100000 in
theorem rsize_any (w : World) (b : Nat) (sv tv : Value) (S T : List Int) (E0 : Nat) (h : RDk w b sv tv S T E0) :
    Calls Try.prog 43 #[.pointer (some ⟨b, 0, none⟩)] w fun r w' => r = .returned (.int .i64 ((S.length : Int) + (T.length : Int))) ∧ ∃ q, w' = w.drewN q := by
  obtain ⟨sa, sc, rfl, _, _, ss⟩ := seg_own h.so
  obtain ⟨ta, tc, rfl, _, _, tt⟩ := seg_own h.to
  have c0 := h.box.cell 0 _ rfl
  have c1 := h.box.cell 1 _ rfl
  have f1 := h.box.thaw 1
  have htop := h.top
  clear h ss tt f1
  generalize S.length = sn at *
  generalize T.length = tn at *
  go_enter Try.func43, Try.ntmps43
  go_wp2_with fail
  go_quiet (fail)
  go_wp2
  go_ret
  exact ⟨rfl, _, rfl⟩

set_option maxHeartbeats 2000000 in
set_option maxRecDepth 100000 in
theorem rappend_no (w : World) (b : Nat) (sv tv : Value) (S T : List Int) (E0 : Nat) (a : Option Addr) (n cap : Nat) (h : RDk w b sv tv S T E0) (hn : n ≤ 140737488351235) (hfit : 4194304 < S.length + T.length + n) :
    Calls Try.prog 39 #[.pointer (some ⟨b, 0, none⟩), .slice a n cap] w fun r w' => r = .returned (.int .i64 91) ∧ Below w.heap.size w w' := by
  have HH := hide h
  have htop := h.top
  clear h
  go_enter Try.func39, Try.ntmps39
  go_wp2_with fail
  refine (rsize_any _ b sv tv S T E0 HH.out).mono ?_
  rintro e w1 ⟨rfl, q, rfl⟩
  have BB := hide (below_drewN' (Below.refl w.heap.size w) q)
  generalize S.length = sn at *
  generalize T.length = tn at *
  obtain ⟨st, hst⟩ : ∃ st : Nat, (sn : Int) + (tn : Int) = (st : Int) := ⟨sn + tn, by omega⟩
  have q1 : (4194304 : Int) < (st : Int) + (n : Int) := by omega
  have q2 : st ≤ 4194304 := by omega
  rw [hst]
  clear hst HH
  go_wp2
  go_ret
  exact ⟨rfl, BB.out⟩

set_option maxHeartbeats 2000000 in
set_option maxRecDepth 100000 in
theorem rappend_yes (w : World) (b : Nat) (sv tv : Value) (S T : List Int) (E0 : Nat) (a : Option Addr) (n cap : Nat) (bs : List Int) (h : RDk w b sv tv S T E0) (hs : Seg w a n bs) (hfit : S.length + T.length + n ≤ 4194304) :
    Calls Try.prog 39 #[.pointer (some ⟨b, 0, none⟩), .slice a n cap] w fun r w' => r = .returned (.int .i64 0) ∧ ∃ tv', RDst w w' b sv tv sv tv' S (T ++ bs) E0 := by
  have HH := hide h
  obtain ⟨sa, sc, rfl, _, _, ss⟩ := seg_own h.so
  obtain ⟨ta, tc, rfl, _, _, tt⟩ := seg_own h.to
  have c0 := h.box.cell 0 _ rfl
  have c1 := h.box.cell 1 _ rfl
  have f1 := h.box.thaw 1
  have htop := h.top
  have TT := hide tt
  have HS := hide hs
  have HSL := hide hs.1
  clear h ss tt hs
  go_enter Try.func39, Try.ntmps39
  go_wp2_with fail
  refine (rsize_any _ b _ _ S T E0 HH.out).mono ?_
  rintro e w1 ⟨rfl, q, rfl⟩
  have BB := hide (below_drewN' (Below.refl w.heap.size w) q)
  have d1 : (w.drewN q).cell? ⟨b, 1, none⟩ = some (.slice ta T.length tc) := c1
  have g1 : (w.drewN q).frozen? ⟨b, 1, none⟩ = false := f1
  obtain ⟨st, hst⟩ : ∃ st : Nat, (S.length : Int) + (T.length : Int) = (st : Int) := ⟨S.length + T.length, by omega⟩
  have q1 : ¬ ((4194304 : Int) < (st : Int) + (n : Int)) := by omega
  have q2 : st ≤ 4194304 := by omega
  rw [hst]
  clear hst c0 c1 f1
  obtain ⟨tn, htn⟩ : ∃ tn, tn = T.length := ⟨_, rfl⟩
  have HTN := hide htn
  rw [← htn] at TT d1 hfit htop
  have hH := HH.out
  rw [← htn] at hH
  have HH2 := hide hH
  clear hH htn
  go_wp2_with fail
  refine (add_any ta a tn n tc cap T bs _ (by exact TT.out) (by exact HS.out) (by omega)).mono ?_
  rintro e w2 ⟨v, rfl, hown, hb2⟩
  obtain ⟨va, vc, rfl⟩ := own_shape hown
  have hb2' : Below w.heap.size w w2 := ⟨hb2.os, hb2.tape, hb2.output, hb2.size, hb2.block⟩
  have R := hide (HH.out.tail hb2' (T' := T ++ bs) (by exact hown) (by rw [List.length_append, HSL.out, ← HTN.out]; omega))
  have e1 : w2.cell? ⟨b, 1, none⟩ = some (.slice ta tn tc) := (hb2.cell (p := ⟨b, 1, none⟩) (by exact HH.out.box.lt)).trans d1
  have k1 : w2.frozen? ⟨b, 1, none⟩ = false := (hb2.frozen (p := ⟨b, 1, none⟩) (by exact HH.out.box.lt)).trans g1
  clear hown hb2 hb2' d1 g1
  generalize hlv : (T ++ bs).length = lv at *
  have RR : Hid (∃ tv', RDst w (w2.setCell ⟨b, 1, none⟩ (.slice va lv vc)) b (.slice sa S.length sc) (.slice ta T.length tc) (.slice sa S.length sc) tv' S (T ++ bs) E0) := ⟨_, R.out⟩
  clear R hlv
  go_wp2
  go_ret
  exact ⟨rfl, RR.out⟩

set_option maxHeartbeats 2000000 in
set_option maxRecDepth 100000 in
theorem rcrash_no (w : World) (b : Nat) (_sv _tv : Value) (_S _T : List Int) (_E0 : Nat) (z : Int) (h0 : z < 0) :
    Calls Try.prog 31 #[.pointer (some ⟨b, 0, none⟩), .int .i64 z] w fun r w' => r = .returned (.int .i64 1) ∧ Below w.heap.size w w' := by
  go_enter Try.func31, Try.ntmps31
  go_wp2
  go_ret
  exact ⟨rfl, Below.refl _ _⟩

set_option maxHeartbeats 2000000 in
set_option maxRecDepth 100000 in
theorem rcrash_yes (w : World) (b : Nat) (sv tv : Value) (S T : List Int) (E0 : Nat) (q : Nat) (hq : (q : Int) ≤ 9223372036854775807) (h : RDk w b sv tv S T E0) :
    Calls Try.prog 31 #[.pointer (some ⟨b, 0, none⟩), .int .i64 (q : Int)] w fun r w' => r = .returned (.int .i64 0) ∧ ∃ tv', RDst w w' b sv tv sv tv' S (T.take q) E0 := by
  have HH := hide h
  obtain ⟨sa, sc, rfl, _, _, ss⟩ := seg_own h.so
  obtain ⟨ta, tc, rfl, _, _, tt⟩ := seg_own h.to
  have c0 := h.box.cell 0 _ rfl
  have c1 := h.box.cell 1 _ rfl
  have f1 := h.box.thaw 1
  have htop := h.top
  have TT := hide tt
  clear h ss tt c0
  have q0 : ¬ ((q : Int) < 0) := by omega
  obtain ⟨tn, htn⟩ : ∃ tn, tn = T.length := ⟨_, rfl⟩
  have HTN := hide htn
  rw [← htn] at TT c1 htop
  clear htn
  obtain ⟨T2, hT2⟩ : ∃ T2, T2 = T.take q := ⟨_, rfl⟩
  have HT2 := hide hT2
  rw [← hT2]
  clear hT2
  go_enter Try.func31, Try.ntmps31
  go_wp2_with fail
  refine (part_any ta tn tc 0 q T _ (by exact TT.out) (Nat.zero_le _) (Nat.zero_le _) hq (by omega)).mono ?_
  rintro e w2 ⟨v, rfl, hown, hb2⟩
  rw [List.drop_zero, ← HT2.out] at hown
  obtain ⟨va, vc, rfl⟩ := own_shape hown
  have R := hide (HH.out.tail hb2 hown (by rw [HT2.out, List.length_take, ← HTN.out]; omega))
  have e1 : w2.cell? ⟨b, 1, none⟩ = some (.slice ta tn tc) := (hb2.cell (p := ⟨b, 1, none⟩) (by exact HH.out.box.lt)).trans c1
  have k1 : w2.frozen? ⟨b, 1, none⟩ = false := (hb2.frozen (p := ⟨b, 1, none⟩) (by exact HH.out.box.lt)).trans f1
  clear hown hb2 c1 f1
  generalize T2.length = lv at *
  have RR : Hid (∃ tv', RDst w (w2.setCell ⟨b, 1, none⟩ (.slice va lv vc)) b (.slice sa S.length sc) (.slice ta T.length tc) (.slice sa S.length sc) tv' S T2 E0) := ⟨_, R.out⟩
  clear R
  go_wp2
  go_ret
  exact ⟨rfl, RR.out⟩
end Go.Proofs.Ytahpnfbjpdnapaa
