/- The contract of the statements' helper fits; Drain over pieces of known bytes; frames one behind the other and cut. -/
import Derived.Test.YtiajkdjljilndaaDoorFrCh
import Derived.Test.YtiajkdjljilndaaDoorFrSealed
namespace Go.Proofs.YtiajkdjljilndaaDoor
open Go.RowKit Go.Wire1 Go.Crc2 Go.Frm

def fitL (ls : List (List Int)) : Bool := ls.all (fun p => decide (p.length ≤ 1048576))
theorem fitL_yes {ls : List (List Int)} (h : fitL ls = true) : ∀ p ∈ ls, p.length ≤ 1048576 := fun p hp => by simpa using List.all_eq_true.1 h p hp
theorem fitL_take {ls : List (List Int)} (i : Nat) (h : i < ls.length) (hb : ¬ (ls.getD i []).length ≤ 1048576) : fitL ls = false := by
  apply Classical.byContradiction
  intro hc
  have : fitL ls = true := by cases hf : fitL ls <;> simp_all
  exact hb (fitL_yes this _ (by rw [List.getD, List.getElem?_eq_getElem h]; exact List.getElem_mem h))
set_option maxHeartbeats 4000000 in
set_option maxRecDepth 100000 in
theorem fits_ver (y0 : Int) (hv : verB y0 = false) (pa : Option Addr) (pn pcap : Nat) (w : World) :
    Calls Tryd.prog 16 #[.int .i64 y0, .slice pa pn pcap] w fun r w' => r = .returned (.bool false) ∧ w = w' := by
  have hvv : y0 < 0 ∨ (¬ y0 < 0 ∧ 2 < y0) := by unfold verB at hv; simp at hv; omega
  clear hv
  rcases hvv with q1 | ⟨q1, q2⟩
  all_goals go_enter Tryd.func16, Tryd.ntmps16
  all_goals go_wp2
  all_goals go_ret
  all_goals exact ⟨rfl, rfl⟩
set_option maxHeartbeats 4000000 in
set_option maxRecDepth 100000 in
theorem fits_any (v : Nat) (hv : v ≤ 2) (pa : Option Addr) (pn pcap : Nat) (ls : List (List Int)) (w : World) (hs : Chs w pa pn ls) :
    Calls Tryd.prog 16 #[.int .i64 (v : Int), .slice pa pn pcap] w fun r w' => r = .returned (.bool (fitL ls)) ∧ w = w' := by
  have q1 : ¬ ((v : Int) < 0) := by omega
  have q2 : ¬ (2 < (v : Int)) := by omega
  have HS := hide hs
  have hpn : pn ≤ 9223372036854775807 := hs.2.1
  clear hs
  obtain ⟨fb, hfb⟩ : ∃ fb, fitL ls = fb := ⟨_, rfl⟩
  rw [hfb]
  have HFB := hide hfb
  clear hfb
  go_enter Tryd.func16, Tryd.ntmps16
  go_wp2
  go_loopw [5] (fun iv wr => ∃ (i : Nat), iv = .int .i64 (i : Int) ∧ i ≤ pn ∧ Hid (∀ j, j < i → (ls.getD j []).length ≤ 1048576) ∧ w = wr) (fun iv _ => pn - (intOf iv).toNat)
  case atStart => exact ⟨0, rfl, Nat.zero_le _, (fun j hj => by omega), rfl⟩
  case round =>
    obtain ⟨i, rfl, hip, HA, rfl⟩ := hrel
    by_cases hlt : i < pn
    · obtain ⟨cb, co, rfl, hc⟩ := HS.out.2.2 (by omega)
      have hil : i < ls.length := by have := HS.out.1; omega
      obtain ⟨xa, xm, xc, hcell, hseg, _⟩ := hc i hlt
      have hxl := hseg.1
      have hxb := hseg.2.1
      unfold maxLen at hxb
      by_cases hx : xm ≤ 1048576
      · have HA2 : Hid (∀ j, j < i + 1 → (ls.getD j []).length ≤ 1048576) := by
          show ∀ j, _
          intro j hj
          rcases Nat.lt_or_ge j i with h | h
          · exact HA.out j h
          · obtain rfl : j = i := by omega
            rw [hxl]; exact hx
        clear hc hseg hxl HA hil
        go_wp2
        go_roundw
        case rel => exact ⟨i + 1, by go_num, by omega, HA2, by first | rfl | trivial⟩
        case measure => simp [intOf]; omega
      · have hno := fitL_take i hil (by rw [hxl]; exact hx)
        have hx2 : 1048576 < (xm : Int) := by omega
        obtain rfl : false = fb := by rw [← HFB.out, hno]
        clear hc hseg hxl HA hno hil
        go_wp2
        go_ret
        exact ⟨rfl, rfl⟩
    · obtain rfl : i = pn := by omega
      have hyes : fitL ls = true := by
        unfold fitL
        rw [List.all_eq_true]
        intro p hp
        obtain ⟨j, hj, rfl⟩ := List.getElem_of_mem hp
        have := HA.out j (by have := HS.out.1; omega)
        rw [List.getD, List.getElem?_eq_getElem hj] at this
        simpa using this
      obtain rfl : true = fb := by rw [← HFB.out, hyes]
      clear hyes HA
      go_wp2
      go_ret
      exact ⟨rfl, rfl⟩

def DrP (P : List (List Int)) (p e : Nat) (w : World) (r : Ending) (w' : World) : Prop := ∃ val gs, r = .returned (.tuple #[val, .int .i64 (p : Int), .int .i64 (e : Int)]) ∧ LRows w' (w.heap.size + 1) val gs ∧ gs.map PL.L = P ∧ Below w.heap.size w w'
theorem drain_bytes (v : Nat) (hv : v ≤ 2) (Y : List Int) (P : List (List Int)) (p e : Nat) (hd : drainF (Y.length + 1) v Y = (P, p, e)) (n : Nat) (hn : Y.length = n) (hb : n ≤ 67108864) (ca : Option Addr) (cn ccap : Nat) (ps : List (Nat × Nat)) (a : Nat → Addr) (W : World) (hp : Pcs 0 ps n) (h : Chs W ca cn (pieces Y ps)) (h1 : Hal W) (h2 : Errs W a) :
    Calls Tryd.prog 9 #[.int .i64 (v : Int), .slice ca cn ccap] W fun r w' => DrP P p e W r w' := by
  refine (drain_any v hv ca cn ccap (pieces Y ps) a W h (by rw [pieces_all hp hn, hn]; omega) h1 h2).mono ?_
  rintro r w' ⟨val, gs, rfl, hR, hg, _, hb⟩
  rw [pieces_all hp hn, hd] at hg
  refine ⟨val, gs, ?_, hR, hg, hb⟩
  rw [pieces_all hp hn, hd]
theorem joinF_short (v : Nat) : ∀ (ls : List (List Int)), (∀ p ∈ ls, p.length ≤ 1048576) → (joinF v ls).length ≤ ls.flatten.length + 17 * ls.length
  | [], _ => by simp [joinF]
  | p :: r, h => by
    have ih := joinF_short v r (fun q hq => h q (by simp [hq]))
    have h1 := hdL_len v p.length (by have := h p (by simp); omega)
    rw [joinF, List.length_append, frm_len, List.flatten_cons, List.length_append, List.length_cons]
    omega
theorem byt_joinF {v : Nat} (hv : v ≤ 2) : ∀ {ls : List (List Int)}, (∀ p ∈ ls, Byt p) → Byt (joinF v ls)
  | [], _ => fun z hz => by cases hz
  | p :: r, h => byt_app (byt_frm v p hv (h p (by simp))) (byt_joinF hv (fun q hq => h q (by simp [hq])))
theorem drain_full (v : Nat) (ls : List (List Int)) (hp : ∀ p ∈ ls, p.length ≤ 1048576) : drainF ((joinF v ls).length + 1) v (joinF v ls) = (ls, (joinF v ls).length, 0) := by
  have := drain_at v ls [] hp (by simp [Frm.look])
  rw [List.append_nil] at this
  exact this
theorem drain_miss (v : Nat) (hv : v ≤ 2) (init : List (List Int)) (p : List Int) (hp : ∀ q ∈ init, q.length ≤ 1048576) (hpl : p.length ≤ 1048576) (hy : Byt p) (k : Nat) (hk : k < (frm v p).length) :
    drainF ((joinF v init ++ (frm v p).take k).length + 1) v (joinF v init ++ (frm v p).take k) = (init, (joinF v init).length, if k = 0 then 0 else 11) := by
  have hs := frm_cut v p hv hy hpl k hk
  rw [drain_at v init _ hp (fun f t => by rw [hs]; simp)]
  unfold tailE
  rw [hs]
  by_cases h0 : k = 0
  · subst h0; simp
  · have hne : (frm v p).take k ≠ [] := by
      intro e
      have := congrArg List.length e
      rw [List.length_take, List.length_nil] at this
      omega
    rw [if_neg hne, if_neg h0]
end Go.Proofs.YtiajkdjljilndaaDoor
