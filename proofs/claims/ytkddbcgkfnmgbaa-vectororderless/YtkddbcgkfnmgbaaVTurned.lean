/- The contract of the statements' own turned: a list of lists, turned; and that a union does not hang on the order. -/
import Derived.Test.YtkddbcgkfnmgbaaVRefs
namespace Go.Proofs.Ytkddbcgkfnmgbaa
open Go.RowKit Go.Wire1

theorem Try.infoR : (Try.prog.info? 23).map (fun i => (i.zero, i.size, i.bytes)) = some (some (.slice none 0 0), 1, 24) := by kernel_rfl

def rotK (ls : List LI) (i k : Nat) : List LI := (List.range k).map fun j => ls.getD ((i + j) % ls.length) liZ
def rotL (ls : List LI) (i : Nat) : List LI := rotK ls i ls.length ++ [ls.getD 0 liZ]
theorem rotK_succ (ls : List LI) (i k : Nat) : rotK ls i (k + 1) = rotK ls i k ++ [ls.getD ((i + k) % ls.length) liZ] := by simp [rotK, List.range_succ]
theorem rotK_len (ls : List LI) (i k : Nat) : (rotK ls i k).length = k := by simp [rotK]

theorem getD_li {ls : List LI} {i : Nat} (hi : i < ls.length) : ls.getD i liZ ∈ ls := by rw [List.getD, List.getElem?_eq_getElem hi]; exact List.getElem_mem hi
theorem rot_mem {ls : List LI} {i : Nat} (h0 : 0 < ls.length) (hi : i < ls.length) (s : LI) : s ∈ rotL ls i ↔ s ∈ ls := by
  unfold rotL rotK
  simp only [List.mem_append, List.mem_map, List.mem_range, List.mem_singleton]
  constructor
  · rintro (⟨j, _, rfl⟩ | rfl)
    · exact getD_li (Nat.mod_lt _ h0)
    · exact getD_li h0
  · intro hs
    obtain ⟨p, hp, rfl⟩ := List.getElem_of_mem hs
    refine .inl ⟨(p + ls.length - i) % ls.length, Nat.mod_lt _ h0, ?_⟩
    have e : (i + (p + ls.length - i) % ls.length) % ls.length = p := by
      rw [Nat.add_mod_mod, show i + (p + ls.length - i) = p + ls.length by omega, Nat.add_mod_right, Nat.mod_eq_of_lt hp]
    rw [e, List.getD, List.getElem?_eq_getElem hp]; rfl

theorem alikeB_iff (L : List (List Int)) : alikeB L = true ↔ ∃ n, okW n = true ∧ 0 < L.length ∧ ∀ l ∈ L, l.length = n := by
  constructor
  · intro h
    have hl := alikeB_len h
    refine ⟨(L.getD 0 []).length, decide_eq_true ⟨hl.2.1, hl.2.2.1⟩, hl.1, fun l hlm => ?_⟩
    obtain ⟨i, hi, rfl⟩ := List.getElem_of_mem hlm
    have := hl.2.2.2 i hi
    rwa [show L.getD i [] = L[i] by rw [List.getD, List.getElem?_eq_getElem hi]; rfl] at this
  · rintro ⟨n, hw, h0, h⟩
    have e0 : (L.getD 0 []).length = n := h _ (by rw [List.getD, List.getElem?_eq_getElem h0]; exact List.getElem_mem h0)
    exact alikeB_yes h0 (by rw [e0]; exact hw) (List.all_eq_true.2 fun l hl => decide_eq_true (by rw [e0]; exact h l hl))
theorem fold_ge' (q : Nat) : ∀ (L : List (List Int)) (k : Int), k ≤ L.foldl (fun k l => if q < l.length ∧ k < l.getD q 0 then l.getD q 0 else k) k := by
  intro L
  induction L with
  | nil => intro k; exact Int.le_refl _
  | cons l r ih =>
    intro k
    refine Int.le_trans ?_ (ih _)
    show k ≤ if q < l.length ∧ k < l.getD q 0 then l.getD q 0 else k
    split <;> omega
theorem maxAt_ge' {L : List (List Int)} {l : List Int} (hl : l ∈ L) (q : Nat) : l.getD q 0 ≤ maxAt L q := by
  by_cases hq : q < l.length
  · have key : ∀ (L : List (List Int)) (k : Int), l ∈ L → l.getD q 0 ≤ L.foldl (fun k l => if q < l.length ∧ k < l.getD q 0 then l.getD q 0 else k) k := by
      intro L
      induction L with
      | nil => intro k h; cases h
      | cons m r ih =>
        intro k h
        rcases List.mem_cons.1 h with h | h
        · subst h
          refine Int.le_trans ?_ (fold_ge' q r _)
          show _ ≤ if q < l.length ∧ k < l.getD q 0 then l.getD q 0 else k
          split <;> omega
        · exact ih _ h
    exact key L 0 hl
  · rw [List.getD, List.getElem?_eq_none (by omega)]; exact maxAt_nonneg L q
theorem maxAt_lub' {L : List (List Int)} {q : Nat} {m : Int} (h0 : 0 ≤ m) (h : ∀ l ∈ L, l.getD q 0 ≤ m) : maxAt L q ≤ m := by
  have key : ∀ (L : List (List Int)) (k : Int), (∀ l ∈ L, l.getD q 0 ≤ m) → k ≤ m → L.foldl (fun k l => if q < l.length ∧ k < l.getD q 0 then l.getD q 0 else k) k ≤ m := by
    intro L
    induction L with
    | nil => intro k _ hk; exact hk
    | cons l r ih =>
      intro k h hk
      refine ih _ (fun x hx => h x (List.mem_cons_of_mem _ hx)) ?_
      have := h l List.mem_cons_self
      show (if q < l.length ∧ k < l.getD q 0 then l.getD q 0 else k) ≤ m
      split <;> omega
  exact key L 0 h h0
theorem union_same {L M : List (List Int)} (h : ∀ l, l ∈ M ↔ l ∈ L) : unionL M = unionL L ∧ unionE M = unionE L := by
  have hpos : ∀ {A B : List (List Int)}, (∀ l, l ∈ A ↔ l ∈ B) → 0 < A.length → 0 < B.length := fun {A B} h hA => by
    obtain ⟨x, r, rfl⟩ := List.exists_cons_of_length_pos hA
    exact List.length_pos_of_mem ((h x).1 List.mem_cons_self)
  have ha : alikeB M = alikeB L := by
    rw [Bool.eq_iff_iff, alikeB_iff, alikeB_iff]
    exact ⟨fun ⟨n, a, b, c⟩ => ⟨n, a, hpos h b, fun l hl => c l ((h l).2 hl)⟩, fun ⟨n, a, b, c⟩ => ⟨n, a, hpos (fun l => (h l).symm) b, fun l hl => c l ((h l).1 hl)⟩⟩
  have ho : M.all okL = L.all okL := by
    rw [Bool.eq_iff_iff, List.all_eq_true, List.all_eq_true]
    exact ⟨fun k l hl => k l ((h l).2 hl), fun k l hl => k l ((h l).1 hl)⟩
  have hm : maxAt M = maxAt L := funext fun q => Int.le_antisymm (maxAt_lub' (maxAt_nonneg _ _) fun l hl => maxAt_ge' ((h l).1 hl) q) (maxAt_lub' (maxAt_nonneg _ _) fun l hl => maxAt_ge' ((h l).2 hl) q)
  refine ⟨?_, by unfold unionE; rw [ha, ho]⟩
  unfold unionL
  rw [ha, ho, hm]
  by_cases hc : alikeB L = true ∧ L.all okL = true
  · rw [if_pos hc, if_pos hc]
    obtain ⟨n, _, b, c⟩ := (alikeB_iff L).1 hc.1
    have e1 : (L.getD 0 []).length = n := c _ (by rw [List.getD, List.getElem?_eq_getElem b]; exact List.getElem_mem b)
    have b' := hpos (fun l => (h l).symm) b
    have e2 : (M.getD 0 []).length = n := c _ ((h _).1 (by rw [List.getD, List.getElem?_eq_getElem b']; exact List.getElem_mem b'))
    rw [e1, e2]
  · rw [if_neg hc, if_neg hc]
theorem union_rot {ls : List LI} {i : Nat} (h0 : 0 < ls.length) (hi : i < ls.length) : unionL (lsOf (rotL ls i)) = unionL (lsOf ls) ∧ unionE (lsOf (rotL ls i)) = unionE (lsOf ls) := by
  apply union_same
  intro l
  unfold lsOf
  rw [List.mem_map, List.mem_map]
  exact ⟨fun ⟨s, hs, e⟩ => ⟨s, (rot_mem h0 hi s).1 hs, e⟩, fun ⟨s, hs, e⟩ => ⟨s, (rot_mem h0 hi s).2 hs, e⟩⟩

/-- A row of lists of our own, whose lists lie anywhere. -/
theorem own_segL {w w0 : World} {B : Nat} {v : Value} {ls : List LI} (h : w.ownsRow B 23 1 v ls.length (ls.map liv)) (h0 : 0 < ls.length) (hb : Below w0.heap.size w0 w) (hs : ∀ s ∈ ls, SegI w0 s.a s.n s.l) : ∃ a cap, v = .slice a ls.length cap ∧ ls.length ≤ cap ∧ SegL w a ls.length ls := by
  rcases h.2 with ⟨_, h2⟩ | ⟨g, cap, cur, rfl, hB, hh, h3, h4, h5, h6⟩
  · omega
  · refine ⟨_, cap, rfl, h3, rfl, by omega, fun _ => ⟨g, 0, rfl, fun i hi => ?_⟩, fun i hi => (hs _ (getD_li hi)).below hb (Nat.le_refl _)⟩
    rw [Nat.zero_add, h.cellAt i (by omega)]
    simp [hi, liv]
theorem pushL {B : Nat} {w wr w1 : World} {v v' : Value} {o : Obj} {pre : List LI} {z : LI} (hB : B ≤ wr.heap.size) (hown : wr.ownsRow B 23 1 v pre.length (pre.map liv)) (hbel : Below B w wr)
    (hown' : w1.ownsRow B 23 1 v' (pre.length + 1) (pre.map liv ++ [liv z])) (hgrow : (wr.alloc o).grownBy w1 v.ownBlock) :
    w1.ownsRow B 23 1 v' (pre ++ [z]).length ((pre ++ [z]).map liv) ∧ Below B w w1 :=
  ⟨by simpa using hown', (hbel.alloc hB o).grown hgrow (by simp; omega) (fun j hj => (hown.lt j hj).1)⟩

set_option maxHeartbeats 1000000 in
set_option maxRecDepth 100000 in
theorem turned_any (a : Option Addr) (n cap i : Nat) (ls : List LI) (w : World) (h : SegL w a n ls) (hi : i < n) (hk : n ≤ 1000) :
    Calls Try.prog 12 #[.slice a n cap, .int .i64 (i : Int)] w fun e w' => ∃ a1 c1, e = .returned (.slice a1 (n + 1) c1) ∧ n + 1 ≤ c1 ∧ SegL w' a1 (n + 1) (rotL ls i) ∧ Below w.heap.size w w' := by
  obtain ⟨i0, hi0, hz0, hz1, hz2⟩ := info_parts Try.infoR
  have HS : Hid (SegL w a n ls) := h
  have HN : Hid (ls.length = n) := h.1
  obtain ⟨b, off, rfl⟩ := h.addr (by omega)
  obtain ⟨b', off', e', hc⟩ := h.2.2.1 (by omega)
  injection e' with e'
  injection e' with e1 e2
  subst e1 e2
  have HC : Hid (∀ j, j < n → w.cell? ⟨b, off + j, none⟩ = some (.slice (ls.getD j liZ).a (ls.getD j liZ).n (ls.getD j liZ).cap)) := hc
  have hn0 : ¬ ((n : Int) = 0) := by omega
  clear h hc
  go_enter Try.func12, Try.ntmps12
  go_wp2
  go_loopw [5, 6] (fun v j wr => ∃ k : Nat, j = .int .i64 (k : Int) ∧ k ≤ n ∧ wr.ownsRow w.heap.size 23 1 v (rotK ls i k).length ((rotK ls i k).map liv) ∧ Below w.heap.size w wr) (fun _ j _ => n - (intOf j).toNat)
  case atStart => exact ⟨0, rfl, Nat.zero_le _, World.ownsRow_nil _ _ _ _, Below.refl _ _⟩
  case round =>
    obtain ⟨k, rfl, hkn, hown, hbel⟩ := hrel
    have hsz := hbel.size
    have hpl := rotK_len ls i k
    by_cases hlt : k < n
    · have hp : (i + k) % n < n := Nat.mod_lt _ (by omega)
      have hmod : ((i : Int) + (k : Int)).tmod (n : Int) = (((i + k) % n : Nat) : Int) := by
        rw [Int.tmod_eq_emod_of_nonneg (by omega), Int.natCast_emod, Int.natCast_add]
      have HT : Hid (rotK ls i (k + 1) = rotK ls i k ++ [ls.getD ((i + k) % n) liZ]) := by show _ = _; rw [rotK_succ, HN.out]
      have cc : wr.cell? ⟨b, off + (i + k) % n, none⟩ = some (.slice (ls.getD ((i + k) % n) liZ).a (ls.getD ((i + k) % n) liZ).n (ls.getD ((i + k) % n) liZ).cap) := by
        rw [hbel.cell (p := ⟨b, off + (i + k) % n, none⟩) (cell_lt (HC.out _ hp))]; exact HC.out _ hp
      generalize (i + k) % n = p at *
      generalize ls.getD p liZ = z at *
      generalize rotK ls i k = pre at *
      obtain ⟨za, zn, zc, zl⟩ := z
      simp only at cc
      go_wp2_with (first
        | (at_builtin; refine wpList_append_own _ rfl _ _ 22 rfl w.heap.size 23 i0 (.slice none 0 0) 1 24 Try.underlying22 hi0 hz0 hz1 hz2 rfl (by decide) _ _ _ rfl (hown.alloc _) ⟨wr.heap.size, 0, none⟩ 1 1 [.slice za zn zc] rfl rfl ?c1 ?c2 ?c3 ?c4 ?c5 ?_))
      case c1 =>
        intro j u hj
        match j, hj with
        | 0, hj => simp at hj; subst hj; simp [Addr.add]
      case c2 => intro u hu; simp at hu; subst hu; rfl
      case c3 => unfold maxLen; omega
      case c4 => omega
      case c5 => simp; omega
      intro v' w1 hown' hgrow _
      rw [← hpl] at hown'
      have R := pushL (z := ⟨za, zn, zc, zl⟩) hsz hown hbel hown' hgrow
      clear hown' hgrow hown
      go_wp2
      go_roundw
      case rel => rw [← HT.out] at R; exact ⟨k + 1, by go_num, by omega, R⟩
      case measure => simp [intOf]; omega
    · obtain rfl : n = k := by omega
      have c0 : wr.cell? ⟨b, off, none⟩ = some (.slice (ls.getD 0 liZ).a (ls.getD 0 liZ).n (ls.getD 0 liZ).cap) := by
        have := HC.out 0 (by omega)
        rw [Nat.add_zero] at this
        rw [hbel.cell (p := ⟨b, off, none⟩) (cell_lt this)]; exact this
      have HT : Hid (rotL ls i = rotK ls i n ++ [ls.getD 0 liZ]) := by show _ = _; unfold rotL; rw [HN.out]
      have HG : Hid (∀ s ∈ rotL ls i, SegI w s.a s.n s.l) := fun s hs => by
        rw [rot_mem (by have := HN.out; omega) (by have := HN.out; omega)] at hs
        obtain ⟨p, hp, rfl⟩ := List.getElem_of_mem hs
        have := HS.out.2.2.2 p (by have := HN.out; omega)
        rwa [show ls.getD p liZ = ls[p] by rw [List.getD, List.getElem?_eq_getElem hp]; rfl] at this
      have HRL : Hid ((rotL ls i).length = n + 1) := by show _ = _; rw [HT.out, List.length_append, hpl]; rfl
      generalize rotK ls i n = pre at *
      generalize ls.getD 0 liZ = z at *
      obtain ⟨za, zn, zc, zl⟩ := z
      simp only at c0
      go_wp2_with (first
        | (at_builtin; refine wpList_append_own _ rfl _ _ 22 rfl w.heap.size 23 i0 (.slice none 0 0) 1 24 Try.underlying22 hi0 hz0 hz1 hz2 rfl (by decide) _ _ _ rfl (hown.alloc _) ⟨wr.heap.size, 0, none⟩ 1 1 [.slice za zn zc] rfl rfl ?c1 ?c2 ?c3 ?c4 ?c5 ?_))
      case c1 =>
        intro j u hj
        match j, hj with
        | 0, hj => simp at hj; subst hj; simp [Addr.add]
      case c2 => intro u hu; simp at hu; subst hu; rfl
      case c3 => unfold maxLen; omega
      case c4 => omega
      case c5 => simp; omega
      intro v' w1 hown' hgrow _
      rw [← hpl] at hown'
      have R := pushL (z := ⟨za, zn, zc, zl⟩) hsz hown hbel hown' hgrow
      rw [← HT.out] at R
      obtain ⟨a1, c1, hv, hc1, hs1⟩ := own_segL R.1 (by rw [HRL.out]; omega) R.2 HG.out
      rw [HRL.out] at hv hc1 hs1
      have S1 : Hid (SegL w1 a1 (n + 1) (rotL ls i)) := hs1
      have B1 : Hid (Below w.heap.size w w1) := R.2
      have hc2 : Hid (n + 1 ≤ c1) := hc1
      subst hv
      clear hown' hgrow hown R hs1 hc1
      go_wp2
      go_ret
      exact ⟨_, _, rfl, hc2.out, S1.out, B1.out⟩
end Go.Proofs.Ytkddbcgkfnmgbaa
