/- The statements' book of lists of bytes that were handed out: what it is in memory; grown, keep. -/
import Derived.Test.YtahpnfbjpdnapaaBkA
import Derived.Test.YtahpnfbjpdnapaaBlk
import Derived.Test.YtahpnfbjpdnapaaTch
import Derived.Test.YtahpnfbjpdnapaaCBytes
namespace Go.Proofs.Ytahpnfbjpdnapaa
open Go.RowKit Go.Wire1

theorem app_markB (L : List Int) (i : Nat) (m : Int) : (L ++ List.replicate i m).map (Value.int .u8) ++ [Value.int .u8 m] = (L ++ List.replicate (i + 1) m).map (Value.int .u8) := by simp [List.replicate_succ']

set_option maxHeartbeats 1000000 in
set_option maxRecDepth 100000 in
theorem grown_any (v : Value) (n : Nat) (l : List Int) (m : Int) (w : World) (h : w.ownsRow 0 5 1 v n (l.map (Value.int .u8))) (hlen : n + 70 ≤ 140737488355328) :
    Calls Try.prog 27 #[v, .int .u8 m] w fun e w' => ∃ v', e = .returned v' ∧ w'.ownsRow 0 5 1 v' (n + 70) ((l ++ List.replicate 70 m).map (Value.int .u8)) ∧ w'.ownsRow 0 5 1 v n (l.map (Value.int .u8)) ∧ w.grownBy w' v.ownBlock ∧ (v'.ownBlock = v.ownBlock ∨ ∃ b, v'.ownBlock = some b ∧ w.heap.size ≤ b) := by
  obtain ⟨i0, hi, hz0, hz1, hz2⟩ := info_parts Try.info5
  have HV := hide h
  clear h
  go_enter Try.func27, Try.ntmps27
  go_wp2
  go_loopw [0, 5] (fun x c wr => ∃ i : Nat, c = .int .i64 (i : Int) ∧ i ≤ 70 ∧ Hid (wr.ownsRow 0 5 1 x (n + i) ((l ++ List.replicate i m).map (Value.int .u8))) ∧ Hid (wr.ownsRow 0 5 1 v n (l.map (Value.int .u8))) ∧ Hid (w.grownBy wr v.ownBlock) ∧ Hid (x.ownBlock = v.ownBlock ∨ ∃ b, x.ownBlock = some b ∧ w.heap.size ≤ b)) (fun _ c _ => 70 - (intOf c).toNat)
  case atStart => exact ⟨0, rfl, by omega, hide (by simpa using HV.out), HV, ⟨rfl, rfl, rfl, Nat.le_refl _, fun _ _ _ => rfl⟩, .inl rfl⟩
  case round =>
    obtain ⟨i, rfl, hk, HX, HO, HG, HB⟩ := hrel
    by_cases hlt : i < 70
    · obtain ⟨XS, hXS⟩ : ∃ XS, Hid ((l ++ List.replicate i m).map (Value.int .u8) = XS) := ⟨_, hide rfl⟩
      rw [hXS.out] at HX
      go_wp2_with (first
        | (at_builtin; refine wpList_append_own3 rfl _ _ 27 rfl 0 5 i0 (.int .u8 0) 1 1 Try.underlying27 hi hz0 hz1 hz2 rfl (by decide) _ _ _ rfl (HX.out.alloc _) ⟨wr.heap.size, 0, none⟩ 1 1 [.int .u8 m] rfl rfl ?c1 ?c2 (by omega) ?c3 ?c4 (Nat.zero_le _) ?_))
      case c1 =>
        intro j u hj
        match j, hj with
        | 0, hj => simp at hj; subst hj; simp [Addr.add]
      case c2 => intro u hu; simp at hu; subst hu; rfl
      case c3 => unfold maxLen; omega
      case c4 => omega
      intro x' w1 hown' hgrow hat hold
      try simp only [World.size_alloc] at hat
      have HX' : Hid (w1.ownsRow 0 5 1 x' (n + (i + 1)) ((l ++ List.replicate (i + 1) m).map (Value.int .u8))) := by
        show World.ownsRow _ _ _ _ _ _ _
        rw [← app_markB, hXS.out]
        exact hown'
      have HG' : Hid (w.grownBy w1 v.ownBlock) := by
        have hal : w.grownBy (wr.alloc (.cells #[.int .u8 m] 5)) v.ownBlock := HG.out.trans (World.grownBy_alloc wr _ _)
        refine ⟨hgrow.os.trans hal.os, hgrow.tape.trans hal.tape, hgrow.output.trans hal.output, Nat.le_trans hal.size hgrow.size, fun k hk hne => ?_⟩
        rw [hgrow.block k (Nat.lt_of_lt_of_le hk hal.size) ?_, hal.block k hk hne]
        intro e
        rcases HB.out with e1 | ⟨b, e1, hb⟩
        · exact hne (by rw [e, e1])
        · rw [e1] at e
          injection e with e
          omega
      have HO' : Hid (w1.ownsRow 0 5 1 v n (l.map (Value.int .u8))) := by
        rcases HB.out with e1 | ⟨b, e1, hb⟩
        · have hx2 := HX.out
          rw [← hXS.out, List.map_append] at hx2
          rw [← hXS.out, List.map_append] at hold
          exact own_prefix HO.out hx2 e1 hold
        · refine (HO.out.alloc _).kept hgrow (.inr ?_)
          rw [e1]
          intro e2
          have := (HV.out.lt b e2).2
          omega
      have HB' : Hid (x'.ownBlock = v.ownBlock ∨ ∃ b, x'.ownBlock = some b ∧ w.heap.size ≤ b) := by
        have hsz := HG.out.size
        rcases hat with e1 | e1
        · rw [e1]; exact HB
        · exact .inr ⟨_, e1, by omega⟩
      clear hown' hgrow hat hold HX HO HG HB hXS
      go_wp2
      go_roundw
      case rel => exact ⟨i + 1, by go_num, by omega, HX', HO', HG', HB'⟩
      case measure => simp [intOf]; omega
    · have e : i = 70 := by omega
      have HX' := HX
      rw [e] at HX'
      clear e HX
      go_wp2
      go_ret
      exact ⟨_, rfl, HX'.out, HO.out, HG.out, HB.out⟩

theorem Try.infoLB : (Try.prog.info? 27).map (fun i => (i.zero, i.size, i.bytes)) = some (some (.slice none 0 0), 1, 24) := by kernel_rfl
theorem Try.ulLB : Try.prog.underlying 26 = some (.slice 27) := by kernel_rfl
theorem marksB {L : List Int} {n : Nat} {m : Int} (hl : L.length = n) (hL : ∀ j, j < n → L.getD j 0 = m) (k : Nat) : ∀ j, j < n + k → (L ++ List.replicate k m).getD j 0 = m := by
  intro j hj
  by_cases h : j < n
  · rw [List.getD, List.getElem?_append_left (by omega)]; exact hL j h
  · rw [List.getD, List.getElem?_append_right (by omega), List.getElem?_replicate, if_pos (by omega)]; rfl
/-- The block of a list that is kept. -/
def kblk (k : KP) : Option Nat := if 0 < k.n then k.a.map (·.block) else none
theorem kblk_of {k : KP} {a : Addr} (hn : 0 < k.n) (ha : k.a = some a) : kblk k = some a.block := by unfold kblk; rw [if_pos hn, ha]; rfl
theorem kblk_own {a : Option Addr} {n cap : Nat} {m : Int} {b : Nat} (h : kblk ⟨a, n, cap, m⟩ = some b) : (Value.slice a n cap).ownBlock = some b := by
  unfold kblk at h
  split at h
  · cases a with
    | none => cases h
    | some x => exact h
  · cases h
/-- The book: its block, its two rows, the lists that are kept; ro says which part a block plays (1 the book, 2 the row of lists, 3 the row of marks, 4 a list that is kept). -/
structure Bd (w : World) (ro : Nat → Nat) (bp : Nat) (vL vN : Value) (bs : List KP) : Prop where
  blk : Blk w bp [vL, vN]
  rL : w.ownsRow 0 27 1 vL bs.length (bs.map kpv)
  rN : w.ownsRow 0 5 1 vN bs.length (bs.map (kpm .u8))
  full : ∀ k ∈ bs, FullK .u8 w k
  o1 : ro bp = 1
  o2 : ∀ b, vL.ownBlock = some b → ro b = 2
  o3 : ∀ b, vN.ownBlock = some b → ro b = 3
  o4 : ∀ k ∈ bs, ∀ b, kblk k = some b → ro b = 4 ∧ b < w.heap.size
section
variable {w w' : World} {ro ro' : Nat → Nat} {bp : Nat} {vL vN : Value} {bs : List KP}
theorem FullK.onK {k : KP} (h : FullK .u8 w k) (hb : ∀ b, kblk k = some b → w'.heap[b]? = w.heap[b]?) : FullK .u8 w' k := h.of_block (fun hn _ e => hb _ (kblk_of hn e))
theorem Bd.frame (h : Bd w ro bp vL vN bs) (hz : w.heap.size ≤ w'.heap.size) (k : ∀ j, j < w.heap.size → 1 ≤ ro j → ro j ≤ 4 → w'.heap[j]? = w.heap[j]?) : Bd w' ro bp vL vN bs :=
  ⟨h.blk.of_block (k bp h.blk.lt (by rw [h.o1]; omega) (by rw [h.o1]; omega)), own_block h.rL (fun b e => k b (h.rL.lt b e).2 (by rw [h.o2 b e]; omega) (by rw [h.o2 b e]; omega)), own_block h.rN (fun b e => k b (h.rN.lt b e).2 (by rw [h.o3 b e]; omega) (by rw [h.o3 b e]; omega)),
    fun x hx => (h.full x hx).onK (fun b e => k b (h.o4 x hx b e).2 (by rw [(h.o4 x hx b e).1]; omega) (by rw [(h.o4 x hx b e).1]; omega)), h.o1, h.o2, h.o3, fun x hx b e => ⟨(h.o4 x hx b e).1, Nat.lt_of_lt_of_le (h.o4 x hx b e).2 hz⟩⟩
theorem Bd.later (h : Bd w ro bp vL vN bs) (hb : Below w.heap.size w w') : Bd w' ro bp vL vN bs := h.frame hb.size (fun j hj _ _ => hb.block j hj)
theorem Bd.rerole (h : Bd w ro bp vL vN bs) (e : ∀ k, k < w.heap.size → ro' k = ro k) : Bd w ro' bp vL vN bs :=
  ⟨h.blk, h.rL, h.rN, h.full, (e bp h.blk.lt).trans h.o1, fun b hb => (e b (h.rL.lt b hb).2).trans (h.o2 b hb), fun b hb => (e b (h.rN.lt b hb).2).trans (h.o3 b hb), fun x hx b hb => ⟨(e b (h.o4 x hx b hb).2).trans (h.o4 x hx b hb).1, (h.o4 x hx b hb).2⟩⟩
/-- Two lists more. -/
theorem Bd.more {w1 w2 w4 : World} {vL' vN' : Value} {k1 k2 : KP} {ob : Option Nat} (h : Bd w ro bp vL vN bs) (g1 : w.grownBy w1 ob) (z0 : ∀ b, ob = some b → ro b = 0 ∧ b < w.heap.size)
    (g2 : w1.grownBy w2 vL.ownBlock) (r2 : w2.ownsRow 0 27 1 vL' (bs.length + 2) (bs.map kpv ++ [kpv k1, kpv k2])) (a2 : vL'.ownBlock = vL.ownBlock ∨ ∃ b, vL'.ownBlock = some b ∧ w1.heap.size ≤ b)
    (g4 : (w2.setCell ⟨bp, 0, none⟩ vL').grownBy w4 vN.ownBlock) (r4 : w4.ownsRow 0 5 1 vN' (bs.length + 2) (bs.map (kpm .u8) ++ [kpm .u8 k1, kpm .u8 k2])) (a4 : vN'.ownBlock = vN.ownBlock ∨ ∃ b, vN'.ownBlock = some b ∧ w2.heap.size ≤ b)
    (f1 : FullK .u8 w1 k1) (f2 : FullK .u8 w1 k2) (z1 : ∀ b, kblk k1 = some b → ob = some b) (z2 : ∀ b, kblk k2 = some b → (ob = some b ∨ w.heap.size ≤ b) ∧ b < w1.heap.size) :
    ∃ ro', Bd (w4.setCell ⟨bp, 1, none⟩ vN') ro' bp vL' vN' (bs ++ [k1, k2]) ∧ (∀ k, k < w.heap.size → ob ≠ some k → ro' k = ro k) ∧ w.heap.size ≤ (w4.setCell ⟨bp, 1, none⟩ vN').heap.size ∧
      (∀ k, k < w.heap.size → ob ≠ some k → (ro k = 0 ∨ 4 < ro k) → (w4.setCell ⟨bp, 1, none⟩ vN').heap[k]? = w.heap[k]?) := by
  have s1 := g1.size
  have s2 := g2.size
  have e3 : (w2.setCell ⟨bp, 0, none⟩ vL').heap.size = w2.heap.size := by simp [World.setCell]
  have s4 : w2.heap.size ≤ w4.heap.size := by have := g4.size; omega
  have e5 : (w4.setCell ⟨bp, 1, none⟩ vN').heap.size = w4.heap.size := by simp [World.setCell]
  have hbp := h.blk.lt
  -- from w1 on
  have st1 : ∀ b, b < w1.heap.size → b ≠ bp → vL.ownBlock ≠ some b → vN.ownBlock ≠ some b → (w4.setCell ⟨bp, 1, none⟩ vN').heap[b]? = w1.heap[b]? := fun b hb q1 q2 q3 => by
    rw [Below.heap_setCell w4 ⟨bp, 1, none⟩ vN' b q1, g4.block b (by omega) (fun e => q3 e.symm), Below.heap_setCell w2 ⟨bp, 0, none⟩ vL' b q1, g2.block b hb (fun e => q2 e.symm)]
  have st0 : ∀ b, b < w.heap.size → ob ≠ some b → ro b ≠ 1 → ro b ≠ 2 → ro b ≠ 3 → (w4.setCell ⟨bp, 1, none⟩ vN').heap[b]? = w.heap[b]? := fun b hb q0 q1 q2 q3 => by
    rw [st1 b (by omega) (fun e => q1 (by rw [e]; exact h.o1)) (fun e => q2 (h.o2 b e)) (fun e => q3 (h.o3 b e)), g1.block b hb (fun e => q0 e.symm)]
  have obr : ∀ b, ro b ≠ 0 → ob ≠ some b := fun b q e => q (z0 b e).1
  have lL : ∀ b, vL.ownBlock = some b → b < w.heap.size := fun b e => (h.rL.lt b e).2
  have lN : ∀ b, vN.ownBlock = some b → b < w.heap.size := fun b e => (h.rN.lt b e).2
  have n2 : ∀ b, vL'.ownBlock = some b → (vL.ownBlock = some b ∨ w1.heap.size ≤ b) ∧ b < w2.heap.size := fun b e => ⟨by
    rcases a2 with e2 | ⟨b2, e2, hb2⟩
    · exact .inl (by rw [← e2]; exact e)
    · rw [e] at e2; injection e2 with e2; exact .inr (by omega), (r2.lt b e).2⟩
  have n4 : ∀ b, vN'.ownBlock = some b → (vN.ownBlock = some b ∨ w2.heap.size ≤ b) := fun b e => by
    rcases a4 with e2 | ⟨b2, e2, hb2⟩
    · exact .inl (by rw [← e2]; exact e)
    · rw [e] at e2; injection e2 with e2; exact .inr (by omega)
  have nkL : ∀ b, w.heap.size ≤ b → b < w1.heap.size → ¬ vL'.ownBlock = some b := fun b h1 h2 e => by
    rcases (n2 b e).1 with e5 | e5
    · have := lL b e5; omega
    · omega
  have nkN : ∀ b, w.heap.size ≤ b → b < w1.heap.size → ¬ vN'.ownBlock = some b := fun b h1 h2 e => by
    rcases n4 b e with e5 | e5
    · have := lN b e5; omega
    · omega
  have B1 : Blk w1 bp [vL, vN] := h.blk.of_block (g1.block bp hbp (fun e => obr bp (by rw [h.o1]; omega) e.symm))
  have B2 : Blk w2 bp [vL, vN] := B1.of_block (g2.block bp (by omega) (fun e => by have := h.o2 bp e.symm; rw [h.o1] at this; omega))
  have B3 : Blk (w2.setCell ⟨bp, 0, none⟩ vL') bp [vL', vN] := B2.setAt 0 vL'
  have B4 : Blk w4 bp [vL', vN] := B3.of_block (g4.block bp (by omega) (fun e => by have := h.o3 bp e.symm; rw [h.o1] at this; omega))
  have nbp : ∀ b, vL'.ownBlock = some b → b ≠ bp := fun b e e2 => by
    rcases (n2 b e).1 with e3 | e3
    · have := h.o2 b e3; rw [e2, h.o1] at this; omega
    · omega
  obtain ⟨rf, hrf⟩ : ∃ rf : Nat → Nat, rf = fun k => if k < w.heap.size then (if ob = some k then 4 else ro k) else if vL'.ownBlock = some k then 2 else if vN'.ownBlock = some k then 3 else 4 := ⟨_, rfl⟩
  have rold : ∀ k, k < w.heap.size → ob ≠ some k → rf k = ro k := fun k hk q => by rw [hrf]; show (if _ then _ else _) = _; rw [if_pos hk, if_neg q]
  have rob : ∀ k, ob = some k → rf k = 4 := fun k q => by rw [hrf]; show (if _ then _ else _) = _; rw [if_pos (z0 k q).2, if_pos q]
  refine ⟨rf, ⟨B4.setAt 1 vN', ?_, ?_, ?_, ?_, ?_, ?_, ?_⟩, rold, by omega, fun k hk q hr => st0 k hk q (by omega) (by omega) (by omega)⟩
  · rw [List.length_append, List.map_append]
    refine own_block r2 (fun b e => ?_)
    rw [Below.heap_setCell w4 ⟨bp, 1, none⟩ vN' b (nbp b e), g4.block b (by have := (n2 b e).2; omega) (fun e2 => ?_), Below.heap_setCell w2 ⟨bp, 0, none⟩ vL' b (nbp b e)]
    have h3 := h.o3 b e2.symm
    rcases (n2 b e).1 with e4 | e4
    · have := h.o2 b e4; omega
    · have := lN b e2.symm; omega
  · rw [List.length_append, List.map_append]
    refine own_block r4 (fun b e => Below.heap_setCell w4 ⟨bp, 1, none⟩ vN' b (fun e2 => ?_))
    have e2 : b = bp := e2
    rcases n4 b e with e3 | e3
    · have := h.o3 b e3; rw [e2, h.o1] at this; omega
    · omega
  · intro k hk
    rcases List.mem_append.1 hk with hk | hk
    · refine (h.full k hk).onK (fun b e => ?_)
      obtain ⟨q4, ql⟩ := h.o4 k hk b e
      exact st0 b ql (obr b (by omega)) (by omega) (by omega) (by omega)
    · simp only [List.mem_cons, List.not_mem_nil, or_false] at hk
      rcases hk with rfl | rfl
      · refine f1.onK (fun b e => ?_)
        obtain ⟨q0, ql⟩ := z0 b (z1 b e)
        exact st1 b (by omega) (fun e2 => by rw [e2, h.o1] at q0; omega) (fun e2 => by have := h.o2 b e2; omega) (fun e2 => by have := h.o3 b e2; omega)
      · refine f2.onK (fun b e => ?_)
        obtain ⟨q0, ql⟩ := z2 b e
        rcases q0 with q0 | q0
        · have q0 := (z0 b q0).1
          exact st1 b ql (fun e2 => by rw [e2, h.o1] at q0; omega) (fun e2 => by have := h.o2 b e2; omega) (fun e2 => by have := h.o3 b e2; omega)
        · exact st1 b ql (fun e2 => by omega) (fun e2 => by have := lL b e2; omega) (fun e2 => by have := lN b e2; omega)
  · rw [rold bp hbp (obr bp (by rw [h.o1]; omega))]; exact h.o1
  · intro b e
    rcases (n2 b e).1 with e3 | e3
    · have := h.o2 b e3
      rw [rold b (lL b e3) (obr b (by omega))]; exact this
    · rw [hrf]; show (if _ then _ else _) = _; rw [if_neg (by omega), if_pos e]
  · intro b e
    rcases n4 b e with e3 | e3
    · have := h.o3 b e3
      rw [rold b (lN b e3) (obr b (by omega))]; exact this
    · rw [hrf]; show (if _ then _ else _) = _; rw [if_neg (by omega), if_neg (fun e4 => by have := (n2 b e4).2; omega), if_pos e]
  · intro k hk b e
    rcases List.mem_append.1 hk with hk | hk
    · obtain ⟨q4, ql⟩ := h.o4 k hk b e
      exact ⟨by rw [rold b ql (obr b (by omega))]; exact q4, by omega⟩
    · simp only [List.mem_cons, List.not_mem_nil, or_false] at hk
      rcases hk with rfl | rfl
      · exact ⟨rob b (z1 b e), by have := (z0 b (z1 b e)).2; omega⟩
      · obtain ⟨q0, ql⟩ := z2 b e
        refine ⟨?_, by omega⟩
        rcases q0 with q0 | q0
        · exact rob b q0
        · rw [hrf]; show (if _ then _ else _) = _
          rw [if_neg (by omega), if_neg (nkL b q0 ql), if_neg (nkN b q0 ql)]
end

set_option maxHeartbeats 4000000 in
set_option maxRecDepth 100000 in
theorem keep_any {w : World} {ro : Nat → Nat} {bp : Nat} {vL vN : Value} {bs : List KP} (hb : Bd w ro bp vL vN bs) {a : Option Addr} {n cap : Nat} {L : List Int} (m : Int)
    (hv : w.ownsRow 0 5 1 (.slice a n cap) n (L.map (Value.int .u8))) (hr : ∀ b, (Value.slice a n cap).ownBlock = some b → ro b = 0) (hlen : n + 70 ≤ 140737488355328) (hks : (bs.length + 2) * 24 ≤ 140737488355328) :
    Calls Try.prog 9 #[.pointer (some ⟨bp, 0, none⟩), .slice a n cap, .int .u8 m] w fun e w' => e = .returned (.tuple #[]) ∧ ∃ ro' vL' vN' ks', Bd w' ro' bp vL' vN' (bs ++ ks') ∧ ks'.length = 2 ∧ (∀ k, k < w.heap.size → (Value.slice a n cap).ownBlock ≠ some k → ro' k = ro k) ∧ w.heap.size ≤ w'.heap.size ∧ (∀ k, k < w.heap.size → (Value.slice a n cap).ownBlock ≠ some k → (ro k = 0 ∨ 4 < ro k) → w'.heap[k]? = w.heap[k]?) ∧ w'.os = w.os ∧ w'.tape = w.tape ∧ w'.output = w.output := by
  obtain ⟨i0, hi, hz0, hz1, hz2⟩ := info_parts Try.info5
  obtain ⟨k0, hk0, hkz, hks1, hkb⟩ := info_parts Try.infoLB
  have HBK := hide hb
  have HV := hide hv
  obtain ⟨ob, hob⟩ : ∃ ob, Hid ((Value.slice a n cap).ownBlock = ob) := ⟨_, hide rfl⟩
  have HR : Hid (∀ b, ob = some b → ro b = 0 ∧ b < w.heap.size) := fun b e => ⟨hr b (by rw [hob.out]; exact e), (hv.lt b (by rw [hob.out]; exact e)).2⟩
  rw [hob.out]
  clear hb hv hr
  go_enter Try.func9, Try.ntmps9
  go_wp2_with fail
  go_loopw [6] (fun x wr => ∃ (i : Nat) (L' : List Int), x = .int .i64 (i : Int) ∧ i ≤ n ∧ Hid (wr.ownsRow 0 5 1 (.slice a n cap) n (L'.map (Value.int .u8))) ∧ Hid (∀ j, j < i → L'.getD j 0 = m) ∧ Hid (w.grownBy wr ob)) (fun x _ => n - (intOf x).toNat)
  case atStart => exact ⟨0, L, rfl, Nat.zero_le _, HV, fun j hj => by omega, ⟨rfl, rfl, rfl, Nat.le_refl _, fun _ _ _ => rfl⟩⟩
  case round =>
    obtain ⟨i, L', rfl, hin, HO, HL, HG⟩ := hrel
    have hLl : Hid (L'.length = n) := hide (by have := HO.out.1; simpa using this)
    by_cases hlt : i < n
    · obtain ⟨g, hg⟩ : ∃ g, a = some ⟨g, 0, none⟩ := by
        rcases HO.out.2 with ⟨_, e⟩ | ⟨g, cap', cur, e, _⟩
        · omega
        · simp only [Value.slice.injEq] at e; exact ⟨g, e.1⟩
      subst hg
      have hogb : Hid (ob = some g) := hob.out.symm
      have ci : wr.cell? ⟨g, i, none⟩ = some (.int .u8 (L'.getD i 0)) := by
        rw [HO.out.cellAt i (by omega), List.getElem?_map, List.getD, List.getElem?_eq_getElem (by have := hLl.out; omega)]; rfl
      have fi := HO.out.frozenAt i
      have HO1 : Hid ((wr.setCell ⟨g, i, none⟩ (.int .u8 m)).ownsRow 0 5 1 (.slice (some ⟨g, 0, none⟩) n cap) n ((L'.set i m).map (Value.int .u8))) := by
        show World.ownsRow _ _ _ _ _ _ _
        rw [List.map_set]; exact (HO.out.stored i _).1
      have HG1 : Hid (w.grownBy (wr.setCell ⟨g, i, none⟩ (.int .u8 m)) ob) := HG.out.trans (by rw [hogb.out]; exact (HO.out.stored i _).2)
      have HL1 : Hid (∀ j, j < i + 1 → (L'.set i m).getD j 0 = m) := fun j hj => by
        have hl := hLl.out
        rw [List.getD, List.getElem?_set]
        by_cases e : i = j
        · rw [if_pos e, if_pos (by omega)]; rfl
        · rw [if_neg e]; exact HL.out j (by omega)
      clear HO HL HG hLl
      generalize L'.getD i 0 = zi at *
      generalize L'.set i m = L2 at *
      go_wp2
      go_roundw
      case rel => exact ⟨i + 1, L2, by go_num, by omega, HO1, HL1, HG1⟩
      case measure => simp [intOf]; omega
    · have HLn : Hid (∀ j, j < n → L'.getD j 0 = m) := fun j hj => HL.out j (by omega)
      by_cases hbig : (65536 : Int) < (n : Int)
      · clear HL
        go_wp2_with fail
        refine (grown_any _ n L' m wr HO.out hlen).mono ?_
        rintro e w1 ⟨vg, rfl, hg1, ho1, hgr1, hat1⟩
        obtain ⟨ag, cg, rfl⟩ := own_shape hg1
        rw [hob.out] at hgr1 hat1
        have HGW : Hid (w.grownBy w1 ob) := HG.out.trans hgr1
        have F1 : Hid (FullK .u8 w1 ⟨a, n, cap, m⟩) := full_own ho1 HLn.out
        have F2 : Hid (FullK .u8 w1 ⟨ag, n + 70, cg, m⟩) := full_own hg1 (marksB hLl.out HLn.out 70)
        have ZA : Hid (∀ b, kblk ⟨a, n, cap, m⟩ = some b → ob = some b) := fun b e => by rw [← hob.out]; exact kblk_own e
        have ZG : Hid (∀ b, kblk ⟨ag, n + 70, cg, m⟩ = some b → (ob = some b ∨ w.heap.size ≤ b) ∧ b < w1.heap.size) := fun b e => by
          have h1 := kblk_own e
          refine ⟨?_, (hg1.lt b h1).2⟩
          rcases hat1 with e2 | ⟨b2, e2, hb2⟩
          · exact .inl (by rw [← e2]; exact h1)
          · rw [h1] at e2
            injection e2 with e2
            have := HG.out.size
            exact .inr (by omega)
        have BP1 : Hid (Blk w1 bp [vL, vN]) := HBK.out.blk.of_block (HGW.out.block bp HBK.out.blk.lt (fun e => by have := (HR.out bp e.symm).1; rw [HBK.out.o1] at this; omega))
        have RL1 : Hid (w1.ownsRow 0 27 1 vL bs.length (bs.map kpv)) := own_block HBK.out.rL (fun b e => HGW.out.block b (HBK.out.rL.lt b e).2 (fun e2 => by have h1 := (HR.out b e2.symm).1; have h2 := HBK.out.o2 b e; omega))
        have RN1 : Hid (w1.ownsRow 0 5 1 vN bs.length (bs.map (kpm .u8))) := own_block HBK.out.rN (fun b e => HGW.out.block b (HBK.out.rN.lt b e).2 (fun e2 => by have h1 := (HR.out b e2.symm).1; have h2 := HBK.out.o3 b e; omega))
        have c0 := BP1.out.cell 0 _ rfl
        obtain ⟨KV, hKV⟩ : ∃ KV, Hid (bs.map kpv = KV) := ⟨_, hide rfl⟩
        obtain ⟨KM, hKM⟩ : ∃ KM, Hid (bs.map (kpm .u8) = KM) := ⟨_, hide rfl⟩
        obtain ⟨kn, hkn⟩ : ∃ kn, Hid (bs.length = kn) := ⟨_, hide rfl⟩
        have RX := RL1
        have RY := RN1
        rw [hKV.out, hkn.out] at RX
        rw [hKM.out, hkn.out] at RY
        rw [hkn.out] at hks
        clear HO HG HV HLn hLl hg1 ho1 hgr1 hat1
        go_wp2_with (first
          | (at_builtin; refine wpList_append_own3 rfl _ _ 26 rfl 0 27 k0 (.slice none 0 0) 1 24 Try.ulLB hk0 hkz hks1 hkb rfl (by decide) _ _ _ rfl (RX.out.alloc _) ⟨w1.heap.size, 0, none⟩ 2 2 [.slice a n cap, .slice ag (n + 70) cg] rfl rfl ?c1 ?c2 (by omega) ?c3 ?c4 (Nat.zero_le _) ?_))
        case c1 =>
          intro j u hj
          rw [add_at, Nat.zero_add]
          exact (blk_new w1 27 [.slice a n cap, .slice ag (n + 70) cg]).cell j u hj
        case c2 => intro u hu; simp at hu; rcases hu with rfl | rfl <;> rfl
        case c3 => unfold maxLen; omega
        case c4 => omega
        intro x2 w2 hown2 hgrow2 hat2 _
        obtain ⟨ax, cx, hx2⟩ := own_shape hown2
        subst hx2
        have hss : Hid (w1.heap.size ≤ (w1.alloc (.cells #[.slice a n cap, .slice ag (n + 70) cg] 27)).heap.size) := hide (by simp)
        have G2 : Hid (w1.grownBy w2 vL.ownBlock) := (World.grownBy_alloc w1 _ _).trans hgrow2
        have R2 : Hid (w2.ownsRow 0 27 1 (Value.slice ax (kn + 2) cx) (bs.length + 2) (bs.map kpv ++ [kpv ⟨a, n, cap, m⟩, kpv ⟨ag, n + 70, cg, m⟩])) := by
          show World.ownsRow _ _ _ _ _ _ _
          rw [hKV.out, hkn.out]; exact hown2
        have A2 : Hid ((Value.slice ax (kn + 2) cx).ownBlock = vL.ownBlock ∨ ∃ b, (Value.slice ax (kn + 2) cx).ownBlock = some b ∧ w1.heap.size ≤ b) := by
          rcases hat2 with e | e
          · exact .inl e
          · exact .inr ⟨_, e, by omega⟩
        have B2 : Hid (Blk w2 bp [vL, vN]) := BP1.out.of_block (G2.out.block bp BP1.out.lt (fun e => by have := HBK.out.o2 bp e.symm; rw [HBK.out.o1] at this; omega))
        have B3 : Hid (Blk (w2.setCell ⟨bp, 0, none⟩ (Value.slice ax (kn + 2) cx)) bp [Value.slice ax (kn + 2) cx, vN]) := B2.out.setAt 0 _
        have RY3 : Hid ((w2.setCell ⟨bp, 0, none⟩ (Value.slice ax (kn + 2) cx)).ownsRow 0 5 1 vN kn KM) := by
          refine own_block RY.out (fun b e => ?_)
          have h3 := HBK.out.o3 b e
          have hl3 := (RN1.out.lt b e).2
          have hne : b ≠ bp := fun e2 => by rw [e2, HBK.out.o1] at h3; omega
          rw [Below.heap_setCell w2 ⟨bp, 0, none⟩ (Value.slice ax (kn + 2) cx) b hne, G2.out.block b hl3 (fun e2 => by have h2 := HBK.out.o2 b e2.symm; omega)]
        have d0 := B2.out.cell 0 _ rfl
        have e0 := B2.out.thaw 0
        have d2 := B3.out.cell 1 _ rfl
        clear hown2 hgrow2 hat2 c0 RX RY hss
        go_wp2_with (first
          | (at_builtin; refine wpList_append_own3 rfl _ _ 27 rfl 0 5 i0 (.int .u8 0) 1 1 Try.underlying27 hi hz0 hz1 hz2 rfl (by decide) _ _ _ rfl (RY3.out.alloc _) _ 2 2 [.int .u8 m, .int .u8 m] rfl rfl ?d1 ?d2 (by omega) ?d3 ?d4 (Nat.zero_le _) ?_))
        case d1 =>
          intro j u hj
          rw [add_at, Nat.zero_add]
          have hq : (w2.setCell ⟨bp, 0, none⟩ (Value.slice ax (kn + 2) cx)).heap.size = w2.heap.size := by simp [World.setCell]
          have hc := (blk_new (w2.setCell ⟨bp, 0, none⟩ (Value.slice ax (kn + 2) cx)) 5 [.int .u8 m, .int .u8 m]).cell j u hj
          rw [hq] at hc
          exact hc
        case d2 => intro u hu; simp at hu; subst hu; rfl
        case d3 => unfold maxLen; omega
        case d4 => omega
        intro y2 w4 hown4 hgrow4 hat4 _
        obtain ⟨ay, cy, hy2⟩ := own_shape hown4
        subst hy2
        have hs3 : Hid (w2.heap.size ≤ ((w2.setCell ⟨bp, 0, none⟩ (Value.slice ax (kn + 2) cx)).alloc (.cells #[.int .u8 m, .int .u8 m] 5)).heap.size) := hide (by simp [World.setCell])
        have G4 : Hid ((w2.setCell ⟨bp, 0, none⟩ (Value.slice ax (kn + 2) cx)).grownBy w4 vN.ownBlock) := by
          show World.grownBy _ _ _
          exact (World.grownBy_alloc _ _ _).trans hgrow4
        have R4 : Hid (w4.ownsRow 0 5 1 (Value.slice ay (kn + 2) cy) (bs.length + 2) (bs.map (kpm .u8) ++ [kpm .u8 ⟨a, n, cap, m⟩, kpm .u8 ⟨ag, n + 70, cg, m⟩])) := by
          show World.ownsRow _ _ _ _ _ _ _
          rw [hKM.out, hkn.out]; exact hown4
        have A4 : Hid ((Value.slice ay (kn + 2) cy).ownBlock = vN.ownBlock ∨ ∃ b, (Value.slice ay (kn + 2) cy).ownBlock = some b ∧ w2.heap.size ≤ b) := by
          rcases hat4 with e | e
          · exact .inl e
          · exact .inr ⟨_, e, by omega⟩
        have B4 : Hid (Blk w4 bp [Value.slice ax (kn + 2) cx, vN]) := B3.out.of_block (G4.out.block bp B3.out.lt (fun e => by have := HBK.out.o3 bp e.symm; rw [HBK.out.o1] at this; omega))
        have d4 := B4.out.cell 1 _ rfl
        have e4 := B4.out.thaw 1
        clear hown4 hgrow4 hat4 d2 hs3 RY3
        have M := hide (HBK.out.more HGW.out HR.out G2.out R2.out A2.out G4.out R4.out A4.out F1.out F2.out ZA.out ZG.out)
        have O5 : Hid ((w4.setCell ⟨bp, 1, none⟩ (Value.slice ay (kn + 2) cy)).os = w.os ∧ (w4.setCell ⟨bp, 1, none⟩ (Value.slice ay (kn + 2) cy)).tape = w.tape ∧ (w4.setCell ⟨bp, 1, none⟩ (Value.slice ay (kn + 2) cy)).output = w.output) :=
          ⟨G4.out.os.trans (G2.out.os.trans HGW.out.os), G4.out.tape.trans (G2.out.tape.trans HGW.out.tape), G4.out.output.trans (G2.out.output.trans HGW.out.output)⟩
        clear G2 R2 A2 G4 R4 A4 B2 B3 B4 BP1 RL1 RN1
        go_wp2
        refine bodyPost_ret (results_none rfl _ _ _) rfl ?_
        obtain ⟨rf, m1, m2, m3, m4⟩ := M.out
        exact ⟨rfl, rf, _, _, _, m1, rfl, m2, m3, m4, O5.out⟩
      · clear HL
        go_wp2_with fail
        refine (grown_any _ n L' m wr HO.out hlen).mono ?_
        rintro e w1 ⟨vg, rfl, hg1, ho1, hgr1, hat1⟩
        obtain ⟨ag, cg, rfl⟩ := own_shape hg1
        rw [hob.out] at hgr1 hat1
        have HGW : Hid (w.grownBy w1 ob) := HG.out.trans hgr1
        have F1 : Hid (FullK .u8 w1 ⟨a, n, cap, m⟩) := full_own ho1 HLn.out
        have F2 : Hid (FullK .u8 w1 ⟨ag, n + 70, cg, m⟩) := full_own hg1 (marksB hLl.out HLn.out 70)
        have ZA : Hid (∀ b, kblk ⟨a, n, cap, m⟩ = some b → ob = some b) := fun b e => by rw [← hob.out]; exact kblk_own e
        have ZG : Hid (∀ b, kblk ⟨ag, n + 70, cg, m⟩ = some b → (ob = some b ∨ w.heap.size ≤ b) ∧ b < w1.heap.size) := fun b e => by
          have h1 := kblk_own e
          refine ⟨?_, (hg1.lt b h1).2⟩
          rcases hat1 with e2 | ⟨b2, e2, hb2⟩
          · exact .inl (by rw [← e2]; exact h1)
          · rw [h1] at e2
            injection e2 with e2
            have := HG.out.size
            exact .inr (by omega)
        have BP1 : Hid (Blk w1 bp [vL, vN]) := HBK.out.blk.of_block (HGW.out.block bp HBK.out.blk.lt (fun e => by have := (HR.out bp e.symm).1; rw [HBK.out.o1] at this; omega))
        have RL1 : Hid (w1.ownsRow 0 27 1 vL bs.length (bs.map kpv)) := own_block HBK.out.rL (fun b e => HGW.out.block b (HBK.out.rL.lt b e).2 (fun e2 => by have h1 := (HR.out b e2.symm).1; have h2 := HBK.out.o2 b e; omega))
        have RN1 : Hid (w1.ownsRow 0 5 1 vN bs.length (bs.map (kpm .u8))) := own_block HBK.out.rN (fun b e => HGW.out.block b (HBK.out.rN.lt b e).2 (fun e2 => by have h1 := (HR.out b e2.symm).1; have h2 := HBK.out.o3 b e; omega))
        have c0 := BP1.out.cell 0 _ rfl
        obtain ⟨KV, hKV⟩ : ∃ KV, Hid (bs.map kpv = KV) := ⟨_, hide rfl⟩
        obtain ⟨KM, hKM⟩ : ∃ KM, Hid (bs.map (kpm .u8) = KM) := ⟨_, hide rfl⟩
        obtain ⟨kn, hkn⟩ : ∃ kn, Hid (bs.length = kn) := ⟨_, hide rfl⟩
        have RX := RL1
        have RY := RN1
        rw [hKV.out, hkn.out] at RX
        rw [hKM.out, hkn.out] at RY
        rw [hkn.out] at hks
        clear HO HG HV HLn hLl hg1 ho1 hgr1 hat1
        go_wp2_with (first
          | (at_builtin; refine wpList_append_own3 rfl _ _ 26 rfl 0 27 k0 (.slice none 0 0) 1 24 Try.ulLB hk0 hkz hks1 hkb rfl (by decide) _ _ _ rfl (RX.out.alloc _) ⟨w1.heap.size, 0, none⟩ 2 2 [.slice a n cap, .slice ag (n + 70) cg] rfl rfl ?c1 ?c2 (by omega) ?c3 ?c4 (Nat.zero_le _) ?_))
        case c1 =>
          intro j u hj
          rw [add_at, Nat.zero_add]
          exact (blk_new w1 27 [.slice a n cap, .slice ag (n + 70) cg]).cell j u hj
        case c2 => intro u hu; simp at hu; rcases hu with rfl | rfl <;> rfl
        case c3 => unfold maxLen; omega
        case c4 => omega
        intro x2 w2 hown2 hgrow2 hat2 _
        obtain ⟨ax, cx, hx2⟩ := own_shape hown2
        subst hx2
        have hss : Hid (w1.heap.size ≤ (w1.alloc (.cells #[.slice a n cap, .slice ag (n + 70) cg] 27)).heap.size) := hide (by simp)
        have G2 : Hid (w1.grownBy w2 vL.ownBlock) := (World.grownBy_alloc w1 _ _).trans hgrow2
        have R2 : Hid (w2.ownsRow 0 27 1 (Value.slice ax (kn + 2) cx) (bs.length + 2) (bs.map kpv ++ [kpv ⟨a, n, cap, m⟩, kpv ⟨ag, n + 70, cg, m⟩])) := by
          show World.ownsRow _ _ _ _ _ _ _
          rw [hKV.out, hkn.out]; exact hown2
        have A2 : Hid ((Value.slice ax (kn + 2) cx).ownBlock = vL.ownBlock ∨ ∃ b, (Value.slice ax (kn + 2) cx).ownBlock = some b ∧ w1.heap.size ≤ b) := by
          rcases hat2 with e | e
          · exact .inl e
          · exact .inr ⟨_, e, by omega⟩
        have B2 : Hid (Blk w2 bp [vL, vN]) := BP1.out.of_block (G2.out.block bp BP1.out.lt (fun e => by have := HBK.out.o2 bp e.symm; rw [HBK.out.o1] at this; omega))
        have B3 : Hid (Blk (w2.setCell ⟨bp, 0, none⟩ (Value.slice ax (kn + 2) cx)) bp [Value.slice ax (kn + 2) cx, vN]) := B2.out.setAt 0 _
        have RY3 : Hid ((w2.setCell ⟨bp, 0, none⟩ (Value.slice ax (kn + 2) cx)).ownsRow 0 5 1 vN kn KM) := by
          refine own_block RY.out (fun b e => ?_)
          have h3 := HBK.out.o3 b e
          have hl3 := (RN1.out.lt b e).2
          have hne : b ≠ bp := fun e2 => by rw [e2, HBK.out.o1] at h3; omega
          rw [Below.heap_setCell w2 ⟨bp, 0, none⟩ (Value.slice ax (kn + 2) cx) b hne, G2.out.block b hl3 (fun e2 => by have h2 := HBK.out.o2 b e2.symm; omega)]
        have d0 := B2.out.cell 0 _ rfl
        have e0 := B2.out.thaw 0
        have d2 := B3.out.cell 1 _ rfl
        clear hown2 hgrow2 hat2 c0 RX RY hss
        go_wp2_with (first
          | (at_builtin; refine wpList_append_own3 rfl _ _ 27 rfl 0 5 i0 (.int .u8 0) 1 1 Try.underlying27 hi hz0 hz1 hz2 rfl (by decide) _ _ _ rfl (RY3.out.alloc _) _ 2 2 [.int .u8 m, .int .u8 m] rfl rfl ?d1 ?d2 (by omega) ?d3 ?d4 (Nat.zero_le _) ?_))
        case d1 =>
          intro j u hj
          rw [add_at, Nat.zero_add]
          have hq : (w2.setCell ⟨bp, 0, none⟩ (Value.slice ax (kn + 2) cx)).heap.size = w2.heap.size := by simp [World.setCell]
          have hc := (blk_new (w2.setCell ⟨bp, 0, none⟩ (Value.slice ax (kn + 2) cx)) 5 [.int .u8 m, .int .u8 m]).cell j u hj
          rw [hq] at hc
          exact hc
        case d2 => intro u hu; simp at hu; subst hu; rfl
        case d3 => unfold maxLen; omega
        case d4 => omega
        intro y2 w4 hown4 hgrow4 hat4 _
        obtain ⟨ay, cy, hy2⟩ := own_shape hown4
        subst hy2
        have hs3 : Hid (w2.heap.size ≤ ((w2.setCell ⟨bp, 0, none⟩ (Value.slice ax (kn + 2) cx)).alloc (.cells #[.int .u8 m, .int .u8 m] 5)).heap.size) := hide (by simp [World.setCell])
        have G4 : Hid ((w2.setCell ⟨bp, 0, none⟩ (Value.slice ax (kn + 2) cx)).grownBy w4 vN.ownBlock) := by
          show World.grownBy _ _ _
          exact (World.grownBy_alloc _ _ _).trans hgrow4
        have R4 : Hid (w4.ownsRow 0 5 1 (Value.slice ay (kn + 2) cy) (bs.length + 2) (bs.map (kpm .u8) ++ [kpm .u8 ⟨a, n, cap, m⟩, kpm .u8 ⟨ag, n + 70, cg, m⟩])) := by
          show World.ownsRow _ _ _ _ _ _ _
          rw [hKM.out, hkn.out]; exact hown4
        have A4 : Hid ((Value.slice ay (kn + 2) cy).ownBlock = vN.ownBlock ∨ ∃ b, (Value.slice ay (kn + 2) cy).ownBlock = some b ∧ w2.heap.size ≤ b) := by
          rcases hat4 with e | e
          · exact .inl e
          · exact .inr ⟨_, e, by omega⟩
        have B4 : Hid (Blk w4 bp [Value.slice ax (kn + 2) cx, vN]) := B3.out.of_block (G4.out.block bp B3.out.lt (fun e => by have := HBK.out.o3 bp e.symm; rw [HBK.out.o1] at this; omega))
        have d4 := B4.out.cell 1 _ rfl
        have e4 := B4.out.thaw 1
        clear hown4 hgrow4 hat4 d2 hs3 RY3
        have M := hide (HBK.out.more HGW.out HR.out G2.out R2.out A2.out G4.out R4.out A4.out F1.out F2.out ZA.out ZG.out)
        have O5 : Hid ((w4.setCell ⟨bp, 1, none⟩ (Value.slice ay (kn + 2) cy)).os = w.os ∧ (w4.setCell ⟨bp, 1, none⟩ (Value.slice ay (kn + 2) cy)).tape = w.tape ∧ (w4.setCell ⟨bp, 1, none⟩ (Value.slice ay (kn + 2) cy)).output = w.output) :=
          ⟨G4.out.os.trans (G2.out.os.trans HGW.out.os), G4.out.tape.trans (G2.out.tape.trans HGW.out.tape), G4.out.output.trans (G2.out.output.trans HGW.out.output)⟩
        clear G2 R2 A2 G4 R4 A4 B2 B3 B4 BP1 RL1 RN1
        go_wp2
        go_end0
        obtain ⟨rf, m1, m2, m3, m4⟩ := M.out
        exact ⟨rfl, rf, _, _, _, m1, rfl, m2, m3, m4, O5.out⟩
end Go.Proofs.Ytahpnfbjpdnapaa
