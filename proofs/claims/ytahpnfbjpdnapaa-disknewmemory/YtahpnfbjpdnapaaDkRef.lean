/- The document's own disk: part, add, New, Image, Look. -/
import Derived.Test.YtahpnfbjpdnapaaDkShow
import Derived.Test.YtahpnfbjpdnapaaDkImage
namespace Go.Proofs.Ytahpnfbjpdnapaa
open Go.RowKit Go.Wire1 Go.MuLone

theorem part_next {l : List Int} {p k : Nat} (h : k < l.length) (hp : p ≤ k) : (l.take (k + 1)).drop p = (l.take k).drop p ++ [l.getD k 0] := by
  rw [take_next h, List.drop_append_of_le_length (by rw [List.length_take]; omega)]
set_option maxHeartbeats 2000000 in
set_option maxRecDepth 100000 in
theorem part_core (a : Option Addr) (n cap p q : Nat) (xs pq : List Int) (HPQ : Hid (pq = (xs.take q).drop p)) (w : World) (ha : Seg w a n xs) (hp : p ≤ n) (hpq : p ≤ q) (_hq : (q : Int) ≤ 9223372036854775807) (hn : n ≤ 140737488351232) :
    Calls Try.prog 42 #[.slice a n cap, .int .i64 (p : Int), .int .i64 (q : Int)] w fun e w' => ∃ v, e = .returned v ∧ w'.ownsRow w.heap.size 5 1 v pq.length (pq.map (Value.int .u8)) ∧ Below w.heap.size w w' := by
  obtain ⟨i0, hi, hz0, hz1, hz2⟩ := info_parts Try.info5
  have HA := hide ha
  have hxl := hide ha.1
  clear ha
  go_enter Try.func42, Try.ntmps42
  go_wp2
  go_loopw [7, 8] (fun v c wr => ∃ k : Nat, c = .int .i64 (k : Int) ∧ p ≤ k ∧ k ≤ q ∧ k ≤ n ∧ wr.ownsRow w.heap.size 5 1 v ((xs.take k).drop p).length (((xs.take k).drop p).map (Value.int .u8)) ∧ Below w.heap.size w wr) (fun _ c _ => n - (intOf c).toNat)
  case atStart => exact ⟨p, rfl, Nat.le_refl _, hpq, hp, by rw [List.drop_of_length_le (by rw [List.length_take]; omega)]; exact World.ownsRow_nil _ _ _ _, Below.refl _ _⟩
  case round =>
    obtain ⟨k, rfl, hpk, hkq, hkn, hown, hbel⟩ := hrel
    have hsz := hbel.size
    have htl : ((xs.take k).drop p).length ≤ k := by rw [List.length_drop, List.length_take]; omega
    by_cases hlt : k < q
    · by_cases hlt2 : k < n
      · have q1 : (k : Int) < (q : Int) := by omega
        have q2 : (k : Int) < (n : Int) := by omega
        obtain ⟨ba, oa, rfl, hca⟩ := (HA.out.below hbel (Nat.le_refl _)).2.2 (by omega)
        have ca : wr.cell? ⟨ba, oa + k, none⟩ = some (.int .u8 (xs.getD k 0)) := hca k hlt2
        have HT : Hid ((xs.take (k + 1)).drop p = (xs.take k).drop p ++ [xs.getD k 0]) := part_next (by have := hxl.out; omega) hpk
        clear hca
        generalize xs.getD k 0 = z at *
        generalize (xs.take k).drop p = pre at *
        go_wp2_with (first
          | (at_builtin; refine wpList_append_own _ rfl _ _ 27 rfl w.heap.size 5 i0 (.int .u8 0) 1 1 Try.underlying27 hi hz0 hz1 hz2 rfl (by decide) _ _ _ rfl (hown.alloc _) ⟨wr.heap.size, 0, none⟩ 1 1 [.int .u8 z] rfl rfl ?c1 ?c2 ?c3 ?c4 ?c5 ?_))
        case c1 =>
          intro j u hj
          match j, hj with
          | 0, hj => simp at hj; subst hj; simp [Addr.add]
        case c2 => intro u hu; simp at hu; subst hu; rfl
        case c3 => unfold maxLen; omega
        case c4 => omega
        case c5 => simp; omega
        intro v' w1 hown' hgrow _
        have R := push hsz hown hbel hown' hgrow
        clear hown' hgrow hown
        go_wp2
        go_roundw
        case rel => rw [← HT.out] at R; exact ⟨k + 1, by go_num, by omega, by omega, by omega, R.1, R.2⟩
        case measure => simp [intOf]; omega
      · have q1 : (k : Int) < (q : Int) := by omega
        have q2 : ¬ ((k : Int) < (n : Int)) := by omega
        have HT : Hid ((xs.take k).drop p = (xs.take q).drop p) := by show _ = _; rw [List.take_of_length_le (by have := hxl.out; omega), List.take_of_length_le (by have := hxl.out; omega)]
        rw [HT.out, ← HPQ.out] at hown
        have HO := hide hown
        have HBB := hide hbel
        clear htl hown hbel
        go_wp2
        go_ret
        exact ⟨_, rfl, HO.out, HBB.out⟩
    · have q1 : ¬ ((k : Int) < (q : Int)) := by omega
      have HT : Hid ((xs.take k).drop p = (xs.take q).drop p) := by show _ = _; rw [show k = q by omega]
      rw [HT.out, ← HPQ.out] at hown
      have HO := hide hown
      have HBB := hide hbel
      clear htl hown hbel
      go_wp2
      go_ret
      exact ⟨_, rfl, HO.out, HBB.out⟩

theorem part_any (a : Option Addr) (n cap p q : Nat) (xs : List Int) (w : World) (ha : Seg w a n xs) (hp : p ≤ n) (hpq : p ≤ q) (hq : (q : Int) ≤ 9223372036854775807) (hn : n ≤ 140737488351232) :
    Calls Try.prog 42 #[.slice a n cap, .int .i64 (p : Int), .int .i64 (q : Int)] w fun e w' => ∃ v, e = .returned v ∧ w'.ownsRow w.heap.size 5 1 v ((xs.take q).drop p).length (((xs.take q).drop p).map (Value.int .u8)) ∧ Below w.heap.size w w' :=
  part_core a n cap p q xs _ rfl w ha hp hpq hq hn

set_option maxHeartbeats 2000000 in
set_option maxRecDepth 100000 in
theorem add_any (a b : Option Addr) (n m cap cap' : Nat) (xs ys : List Int) (w : World) (ha : Seg w a n xs) (hb : Seg w b m ys) (hn : n + m ≤ 140737488355328) :
    Calls Try.prog 41 #[.slice a n cap, .slice b m cap'] w fun e w' => ∃ v, e = .returned v ∧ w'.ownsRow w.heap.size 5 1 v (xs ++ ys).length ((xs ++ ys).map (Value.int .u8)) ∧ Below w.heap.size w w' := by
  obtain ⟨i0, hi, hz0, hz1, hz2⟩ := info_parts Try.info5
  have HA := hide ha
  have HY := hide hb
  have hyl := hide hb.1
  have hxl := hide ha.1
  clear ha hb
  go_enter Try.func41, Try.ntmps41
  go_wp2_with fail
  refine (bytes_any a n cap xs _ HA.out (by omega)).mono ?_
  rintro e w0 ⟨v0, rfl, hown0, hbel0⟩
  have O0 := hide hown0
  have B0 := hide hbel0
  clear hown0 hbel0
  go_wp2
  go_loopw [5, 6] (fun v c wr => ∃ k : Nat, c = .int .i64 (k : Int) ∧ k ≤ m ∧ wr.ownsRow w.heap.size 5 1 v (xs ++ ys.take k).length ((xs ++ ys.take k).map (Value.int .u8)) ∧ Below w.heap.size w wr) (fun _ c _ => m - (intOf c).toNat)
  case atStart => exact ⟨0, rfl, Nat.zero_le _, by rw [List.take_zero, List.append_nil]; exact O0.out, B0.out⟩
  case round =>
    obtain ⟨k, rfl, hk, hown, hbel⟩ := hrel
    have hsz := hbel.size
    have htl : (xs ++ ys.take k).length ≤ n + k := by rw [List.length_append, hxl.out]; have := List.length_take_le k ys; omega
    by_cases hlt : k < m
    · obtain ⟨ba, oa, rfl, hca⟩ := (HY.out.below hbel (Nat.le_refl _)).2.2 (by omega)
      have ca : wr.cell? ⟨ba, oa + k, none⟩ = some (.int .u8 (ys.getD k 0)) := hca k hlt
      have HT : Hid (xs ++ ys.take (k + 1) = (xs ++ ys.take k) ++ [ys.getD k 0]) := by show _ = _; rw [take_next (by have := hyl.out; omega), List.append_assoc]
      clear hca
      generalize ys.getD k 0 = z at *
      generalize xs ++ ys.take k = pre at *
      go_wp2_with (first
        | (at_builtin; refine wpList_append_own _ rfl _ _ 27 rfl w.heap.size 5 i0 (.int .u8 0) 1 1 Try.underlying27 hi hz0 hz1 hz2 rfl (by decide) _ _ _ rfl (hown.alloc _) ⟨wr.heap.size, 0, none⟩ 1 1 [.int .u8 z] rfl rfl ?c1 ?c2 ?c3 ?c4 ?c5 ?_))
      case c1 =>
        intro j u hj
        match j, hj with
        | 0, hj => simp at hj; subst hj; simp [Addr.add]
      case c2 => intro u hu; simp at hu; subst hu; rfl
      case c3 => unfold maxLen; omega
      case c4 => omega
      case c5 => simp; omega
      intro v' w1 hown' hgrow _
      have R := push hsz hown hbel hown' hgrow
      clear hown' hgrow hown
      go_wp2
      go_roundw
      case rel => rw [← HT.out] at R; exact ⟨k + 1, by go_num, by omega, R.1, R.2⟩
      case measure => simp [intOf]; omega
    · have HT : Hid (xs ++ ys.take k = xs ++ ys) := by show _ = _; rw [List.take_of_length_le (by have := hyl.out; omega)]
      rw [HT.out] at hown
      clear htl
      go_wp2
      go_ret
      exact ⟨_, rfl, hown, hbel⟩

/-- The document's own disk in memory: what is safe, and the tail. -/
structure RDk (w : World) (b : Nat) (sv tv : Value) (S T : List Int) (E0 : Nat) : Prop where
  box : Blk w b [sv, tv]
  so : w.ownsRow E0 5 1 sv S.length (S.map (Value.int .u8))
  to : w.ownsRow E0 5 1 tv T.length (T.map (Value.int .u8))
  fs : sv.ownBlock ≠ some b
  ft : tv.ownBlock ≠ some b
  st : ∀ k, sv.ownBlock = some k → tv.ownBlock ≠ some k
  low : E0 ≤ b
  top : S.length + T.length ≤ 4194304
theorem RDk.on {w w' : World} {b : Nat} {sv tv : Value} {S T : List Int} {E0 : Nat} (h : RDk w b sv tv S T E0) (hb : w'.heap[b]? = w.heap[b]?) (hs : ∀ k, sv.ownBlock = some k → w'.heap[k]? = w.heap[k]?) (ht : ∀ k, tv.ownBlock = some k → w'.heap[k]? = w.heap[k]?) : RDk w' b sv tv S T E0 :=
  ⟨h.box.of_block hb, own_other h.so hs, own_other h.to ht, h.fs, h.ft, h.st, h.low, h.top⟩
theorem RDk.later {w w' : World} {b : Nat} {sv tv : Value} {S T : List Int} {E0 : Nat} (h : RDk w b sv tv S T E0) (hb : Below w.heap.size w w') : RDk w' b sv tv S T E0 :=
  h.on (hb.block b h.box.lt) (fun k hk => hb.block k (h.so.lt k hk).2) (fun k hk => hb.block k (h.to.lt k hk).2)

set_option maxHeartbeats 2000000 in
set_option maxRecDepth 100000 in
theorem rnew_any (w : World) (E0 : Nat) (hE : E0 ≤ w.heap.size) :
    Calls Try.prog 28 #[] w fun r w' => r = .returned (.pointer (some ⟨w.heap.size, 0, none⟩)) ∧ RDk w' w.heap.size (.slice none 0 0) (.slice none 0 0) [] [] E0 ∧ Below w.heap.size w w' ∧ w'.heap.size = w.heap.size + 1 := by
  have R : Hid (RDk (w.alloc (.cells #[.slice none 0 0, .slice none 0 0] 69)) w.heap.size (.slice none 0 0) (.slice none 0 0) [] [] E0) :=
    ⟨blk_new w _ [.slice none 0 0, .slice none 0 0], World.ownsRow_nil _ _ _ _, World.ownsRow_nil _ _ _ _, (by intro e; cases e), (by intro e; cases e), (fun k hk => by cases hk), hE, Nat.zero_le _⟩
  have B : Hid (Below w.heap.size w (w.alloc (.cells #[.slice none 0 0, .slice none 0 0] 69))) := (Below.refl _ _).alloc (Nat.le_refl _) _
  go_enter Try.func28, Try.ntmps28
  go_wp2
  go_ret
  exact ⟨rfl, R.out, B.out, by simp⟩

set_option maxHeartbeats 2000000 in
set_option maxRecDepth 100000 in
theorem rimage_full (a : Option Addr) (n cap : Nat) (z : Int) (w : World) (h1 : 4194304 < n) :
    Calls Try.prog 46 #[.slice a n cap, .int .i64 z] w fun r w' => r = .returned (.tuple #[.pointer none, .int .i64 91]) ∧ Below w.heap.size w w' := by
  have q1 : (4194304 : Int) < (n : Int) := by omega
  clear h1
  go_enter Try.func46, Try.ntmps46
  go_wp2
  go_ret2
  exact ⟨rfl, Below.refl _ _⟩

set_option maxHeartbeats 2000000 in
set_option maxRecDepth 100000 in
theorem rimage_low (a : Option Addr) (n cap : Nat) (z : Int) (w : World) (h1 : n ≤ 4194304) (h2 : z < 0) :
    Calls Try.prog 46 #[.slice a n cap, .int .i64 z] w fun r w' => r = .returned (.tuple #[.pointer none, .int .i64 92]) ∧ Below w.heap.size w w' := by
  have q1 : ¬ ((4194304 : Int) < (n : Int)) := by omega
  clear h1
  go_enter Try.func46, Try.ntmps46
  go_wp2
  go_ret2
  exact ⟨rfl, Below.refl _ _⟩

set_option maxHeartbeats 2000000 in
set_option maxRecDepth 100000 in
theorem rimage_high (a : Option Addr) (n cap : Nat) (z : Int) (w : World) (h1 : n ≤ 4194304) (h2 : ¬ z < 0) (h3 : (n : Int) < z) :
    Calls Try.prog 46 #[.slice a n cap, .int .i64 z] w fun r w' => r = .returned (.tuple #[.pointer none, .int .i64 92]) ∧ Below w.heap.size w w' := by
  have q1 : ¬ ((4194304 : Int) < (n : Int)) := by omega
  clear h1
  go_enter Try.func46, Try.ntmps46
  go_wp2
  go_ret2
  exact ⟨rfl, Below.refl _ _⟩

set_option maxHeartbeats 2000000 in
set_option maxRecDepth 100000 in
theorem rimage_yes (a : Option Addr) (n cap k : Nat) (l : List Int) (w : World) (E0 : Nat) (hE : E0 ≤ w.heap.size) (hs : Seg w a n l) (h1 : n ≤ 4194304) (hk : k ≤ n) :
    Calls Try.prog 46 #[.slice a n cap, .int .i64 (k : Int)] w fun r w' => ∃ b sv tv, r = .returned (.tuple #[.pointer (some ⟨b, 0, none⟩), .int .i64 0]) ∧ w.heap.size ≤ b ∧ Below w.heap.size w w' ∧ RDk w' b sv tv (l.take k) (l.drop k) E0 ∧ (∀ j, sv.ownBlock = some j → w.heap.size ≤ j) ∧ (∀ j, tv.ownBlock = some j → w.heap.size ≤ j) := by
  have q1 : ¬ ((4194304 : Int) < (n : Int)) := by omega
  have q2 : ¬ ((k : Int) < 0) := by omega
  have q3 : ¬ ((n : Int) < (k : Int)) := by omega
  have HS := hide hs
  have HL := hide hs.1
  clear hs
  go_enter Try.func46, Try.ntmps46
  go_wp2_with fail
  refine (part_any a n cap 0 k l _ (by exact HS.out) (Nat.zero_le _) (Nat.zero_le _) (by omega) (by omega)).mono ?_
  rintro e w1 ⟨v1, rfl, hown1, hb1⟩
  rw [List.drop_zero] at hown1
  have O1 := hide hown1
  have B1 := hide hb1
  clear hown1 hb1
  go_wp2_with fail
  refine (part_any a n cap k n l _ (HS.out.below B1.out (Nat.le_refl _)) hk hk (by omega) (by omega)).mono ?_
  rintro e w2 ⟨v2, rfl, hown2, hb2⟩
  rw [List.take_of_length_le (by rw [HL.out]; exact Nat.le_refl _)] at hown2
  have O12 := own_below O1.out hb2 (Nat.le_refl _)
  obtain ⟨s1, c1, e1⟩ := own_shape O12
  obtain ⟨s2, c2, e2⟩ := own_shape hown2
  have B2 := B1.out.trans (hb2.mono B1.out.size)
  have hsep : ∀ j, v1.ownBlock = some j → v2.ownBlock ≠ some j := fun j hj e => by have := (O1.out.lt j hj).2; have := (hown2.lt j e).1; omega
  have D : Hid (RDk (w2.alloc (.cells #[v1, v2] 69)) w2.heap.size v1 v2 (l.take k) (l.drop k) E0) := by
    have hA : Below w2.heap.size w2 (w2.alloc (.cells #[v1, v2] 69)) := (Below.refl _ _).alloc (Nat.le_refl _) _
    have s0 := own_below O12 hA (Nat.le_refl _)
    have t0 := own_below hown2 hA (Nat.le_refl _)
    have hz1 := B1.out.size
    refine ⟨blk_new w2 _ [v1, v2], ⟨s0.1, s0.2.elim .inl fun ⟨g, cap, cur, e, hB, r⟩ => .inr ⟨g, cap, cur, e, by omega, r⟩⟩, ⟨t0.1, t0.2.elim .inl fun ⟨g, cap, cur, e, hB, r⟩ => .inr ⟨g, cap, cur, e, by omega, r⟩⟩, (fun e => by have := (O12.lt _ e).2; omega), (fun e => by have := (hown2.lt _ e).2; omega), hsep, by have := B2.size; omega, ?_⟩
    rw [List.length_take, List.length_drop, HL.out]; omega
  have B : Hid (Below w.heap.size w (w2.alloc (.cells #[v1, v2] 69))) := B2.alloc B2.size _
  have Z := hide B2.size
  have V1 : Hid (∀ j, v1.ownBlock = some j → w.heap.size ≤ j) := fun j hj => (O1.out.lt j hj).1
  have V2 : Hid (∀ j, v2.ownBlock = some j → w.heap.size ≤ j) := fun j hj => Nat.le_trans B1.out.size (hown2.lt j hj).1
  subst e1 e2
  clear hown2 hb2 O12 B2 hsep O1 B1
  generalize (l.take k).length = m1 at *
  generalize (l.drop k).length = m2 at *
  go_wp2
  go_ret2
  exact ⟨_, _, _, rfl, Z.out, B.out, D.out, V1.out, V2.out⟩

set_option maxHeartbeats 2000000 in
set_option maxRecDepth 100000 in
theorem rlook_any (w : World) (b : Nat) (sv tv : Value) (S T : List Int) (E0 : Nat) (h : RDk w b sv tv S T E0) :
    Calls Try.prog 45 #[.pointer (some ⟨b, 0, none⟩)] w fun r w' => ∃ v, r = .returned (.tuple #[v, .int .i64 (S.length : Int)]) ∧ w'.ownsRow w.heap.size 5 1 v (S ++ T).length ((S ++ T).map (Value.int .u8)) ∧ Below w.heap.size w w' := by
  obtain ⟨sa, sc, rfl, _, _, ss⟩ := seg_own h.so
  obtain ⟨ta, tc, rfl, _, _, tt⟩ := seg_own h.to
  have c0 := h.box.cell 0 _ rfl
  have c1 := h.box.cell 1 _ rfl
  have HB := hide h.box.lt
  have SS := hide ss
  have TT := hide tt
  have htop := h.top
  clear h ss tt
  generalize S.length = sn at *
  generalize T.length = tn at *
  go_enter Try.func45, Try.ntmps45
  go_wp2_with fail
  go_region_held3 (fun w' => w'.cell? ⟨b, 0, none⟩ = some (.slice sa sn sc) ∧ w'.cell? ⟨b, 1, none⟩ = some (.slice ta tn tc)) (first | exact ⟨c0, c1⟩ | go_keep | (refine ⟨?_, ?_⟩ <;> (rw [hb0.cell (by exact HB.out)]; assumption))) ((go_at_call 41; refine (add_any sa ta sn tn sc tc S T _ (by exact SS.out) (by exact TT.out) (by omega)).mono ?_; rintro e w2 ⟨v, rfl, hown, hb0⟩))
  have B2 : Hid (Below w.heap.size w w2) := ⟨hb0.os, hb0.tape, hb0.output, hb0.size, hb0.block⟩
  have d0 : w2.cell? ⟨b, 0, none⟩ = some (.slice sa sn sc) := (hb0.cell (by exact HB.out)).trans c0
  have OW : Hid (w2.ownsRow w.heap.size 5 1 v (S ++ T).length ((S ++ T).map (Value.int .u8))) := hown
  clear hown hb0
  go_wp2_with fail
  go_quiet (fail)
  go_wp2
  go_ret2
  exact ⟨_, rfl, OW.out, below_drewN' B2.out _⟩
end Go.Proofs.Ytahpnfbjpdnapaa
