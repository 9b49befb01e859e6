/- The contract of the disk's method Append. -/
import Derived.Test.YtahpnfbjpdnapaaDkMeth
import Derived.Test.YtahpnfbjpdnapaaCBytes
import Derived.Maps.AppendAt
import Derived.Laws.AppendOwnNone
namespace Go.Proofs.Ytahpnfbjpdnapaa
open Go.RowKit Go.Wire1 Go.MuLone

section
variable (w : World) (b : Nat) (pv : Value) (l : List Int) (m E0 : Nat)

set_option maxHeartbeats 1000000 in
set_option maxRecDepth 100000 in
theorem append_no (a : Option Addr) (n cap : Nat) (h : Dsk 0 w b pv l m E0) (hfit : 4194304 < l.length + n) :
    Calls Try.prog 17 #[.pointer (some ⟨b, 0, none⟩), .slice a n cap] w fun r w' => r = .returned (.int .i64 91) ∧ Below w.heap.size w w' := by
  obtain ⟨sa, cap1, rfl⟩ := own_shape h.own
  have c0 := h.box.cell 0 _ rfl
  have c2 := h.box.cell 2 _ rfl
  have c3 := h.box.cell 3 _ rfl
  have f0 := h.box.thaw 0
  have f2 := h.box.thaw 2
  have R := hide h.still
  have L1 : Hid ((w.setCell ⟨b, 0, none⟩ (.int .i32 1)).cell? ⟨b, 0, none⟩ = some (.int .i32 1)) := (h.lock 1).dsk.box.cell 0 _ rfl
  have ht := h.top
  clear h
  generalize l.length = n0 at *
  have q1 : 4194304 - (n0 : Int) < (n : Int) := by omega
  go_enter_defers Try.func17, Try.ntmps17
  go_wp2_with (go_at_call 24; refine (lock_free Try.muLib ⟨b, 0, none⟩ _ c0 f0).mono ?_; rintro e w' ⟨rfl, rfl⟩)
  refine leaves_cons (f := 25) (args := #[.pointer (some ⟨b, 0, none⟩)]) (by simp) (by simp [go_sem]) ?_
  refine (unlock_deferred Try.muLib ⟨b, 0, none⟩ .returning _ (by exact L1.out) (by simp [f0])).mono ?_
  rintro e u' w'' ⟨rfl, rfl, rfl⟩
  exact ⟨_, results_tmp rfl _ _ _, rfl, R.out⟩

set_option maxHeartbeats 1000000 in
set_option maxRecDepth 100000 in
theorem append_nil (h : Dsk 0 w b pv l m E0) :
    Calls Try.prog 17 #[.pointer (some ⟨b, 0, none⟩), .slice none 0 0] w fun r w' => r = .returned (.int .i64 0) ∧ ∃ pv', Dst 0 w w' b pv pv' l m E0 := by
  obtain ⟨i0, hi, hz0, hz1, hz2⟩ := info_parts Try.info5
  obtain ⟨sa, cap1, rfl⟩ := own_shape h.own
  have c0 := h.box.cell 0 _ rfl
  have c2 := h.box.cell 2 _ rfl
  have c3 := h.box.cell 3 _ rfl
  have f0 := h.box.thaw 0
  have f2 := h.box.thaw 2
  have ht := h.top
  have h1 := h.lock 1
  have h2 := h1.trans (h1.dsk.cut (Nat.le_refl _) h.le)
  rw [List.take_length] at h2
  have R := hide (h2.trans (h2.dsk.lock 0))
  have L1 : Hid (((w.setCell ⟨b, 0, none⟩ (.int .i32 1)).setCell ⟨b, 2, none⟩ (.slice sa l.length cap1)).cell? ⟨b, 0, none⟩ = some (.int .i32 1)) := h2.dsk.box.cell 0 _ rfl
  have OW := hide h1.dsk.own
  clear h1 h2 h
  generalize l.map (Value.int .u8) = L at *
  generalize l.length = n0 at *
  have q1 : ¬ (4194304 - (n0 : Int) < 0) := by omega
  go_enter_defers Try.func17, Try.ntmps17
  go_wp2_with (first | (go_at_call 24; refine (lock_free Try.muLib ⟨b, 0, none⟩ _ c0 f0).mono ?_; rintro e w' ⟨rfl, rfl⟩) | (at_builtin; refine wpList_append_own_none rfl _ _ 27 rfl E0 5 i0 1 Try.underlying27 hi _ _ _ rfl OW.out rfl ?_))
  refine leaves_cons (f := 25) (args := #[.pointer (some ⟨b, 0, none⟩)]) (by simp) (by simp [go_sem]) ?_
  refine (unlock_deferred Try.muLib ⟨b, 0, none⟩ .returning _ (by exact L1.out) (by simp [f0])).mono ?_
  rintro e u' w'' ⟨rfl, rfl, rfl⟩
  exact ⟨_, results_tmp rfl _ _ _, rfl, _, R.out⟩

set_option maxHeartbeats 1000000 in
set_option maxRecDepth 100000 in
theorem append_some (ad : Addr) (n cap : Nat) (bs : List Int) (h : Dsk 0 w b pv l m E0) (hs : Seg w (some ad) n bs) (hy : Byt bs) (hsep : 0 < n → ad.block ≠ b) (hfit : l.length + n ≤ 4194304) :
    Calls Try.prog 17 #[.pointer (some ⟨b, 0, none⟩), .slice (some ad) n cap] w fun r w' => r = .returned (.int .i64 0) ∧ ∃ pv', Dst 0 w w' b pv pv' (l ++ bs) m E0 := by
  obtain ⟨i0, hi, hz0, hz1, hz2⟩ := info_parts Try.info5
  obtain ⟨sa, cap1, rfl⟩ := own_shape h.own
  have c0 := h.box.cell 0 _ rfl
  have c2 := h.box.cell 2 _ rfl
  have c3 := h.box.cell 3 _ rfl
  have f0 := h.box.thaw 0
  have f2 := h.box.thaw 2
  have ht := h.top
  have hlow : E0 ≤ w.heap.size := by have := h.low; have := h.box.lt; omega
  have h1 := h.lock 1
  have hcells : ∀ j u, (bs.map (Value.int .u8))[j]? = some u → (w.setCell ⟨b, 0, none⟩ (.int .i32 1)).cell? (ad.add j) = some u := fun j u hj => by
    have hjl : j < bs.length := by
      rcases Nat.lt_or_ge j bs.length with h | h
      · exact h
      · simp [List.getElem?_eq_none (show (bs.map (Value.int .u8)).length ≤ j by simpa using h)] at hj
    have h0 : 0 < n := by rw [← hs.1]; omega
    obtain ⟨b2, off, e, hc⟩ := hs.2.2 h0
    have hne := hsep h0
    cases e
    have hcj := hc j (by rw [← hs.1]; exact hjl)
    rw [add_at, World.cell?_setCell_other _ _ _ _ (by intro e; injection e with e _ _; exact hne e.symm), hcj]
    simp [List.getElem?_eq_getElem hjl] at hj
    subst hj
    simp [List.getElem?_eq_getElem hjl]
  have HH := hide h1
  have HL := hide hs.1
  have OW := hide h1.dsk.own
  have HY := hide (And.intro h.byt hy)
  have HLE := hide h.le
  have HC := hide hcells
  have HI := hide h.box.lt
  clear h1 h hs hy hcells hsep
  obtain ⟨L, hL⟩ : ∃ L, L = l.map (Value.int .u8) := ⟨_, rfl⟩
  obtain ⟨M, hM⟩ : ∃ M, M = bs.map (Value.int .u8) := ⟨_, rfl⟩
  obtain ⟨n0, hn0⟩ : ∃ n0, n0 = l.length := ⟨_, rfl⟩
  rw [← hn0] at hfit ht c2
  have q1 : ¬ (4194304 - (n0 : Int) < (n : Int)) := by omega
  have HN0 := hide hn0
  rw [← hL, ← hn0] at OW
  rw [← hM] at HC
  have HM := hide hM
  have HLL := hide hL
  rw [← hn0]
  rw [← hn0] at HH
  clear hn0 hL hM
  go_enter_defers Try.func17, Try.ntmps17
  go_wp2_with (first | (go_at_call 24; refine (lock_free Try.muLib ⟨b, 0, none⟩ _ c0 f0).mono ?_; rintro e w' ⟨rfl, rfl⟩) | (at_builtin; refine wpList_append_own_at _ rfl _ _ 27 rfl E0 5 i0 (.int .u8 0) 1 1 Try.underlying27 hi hz0 hz1 hz2 rfl (by decide) _ _ _ rfl OW.out ad n cap M rfl ?c0 HC.out ?c2 ?c3 ?c4 ?c5 ?_))
  case c0 => rw [HM.out, List.length_map, HL.out, Nat.mul_one]
  case c2 => intro u hu; rw [HM.out] at hu; obtain ⟨z, _, rfl⟩ := List.mem_map.1 hu; rfl
  case c3 => unfold maxLen; omega
  case c4 => omega
  case c5 => simpa [World.setCell] using hlow
  intro v' w2 hown' hgrow _ hat
  obtain ⟨sa2, cap2, rfl⟩ := own_shape hown'
  have hN : (l ++ bs).length = n0 + n := by rw [List.length_append, HL.out, HN0.out]
  have G := HH.out.dsk.grow (l' := l ++ bs) (by rw [hN, List.map_append, ← HLL.out, ← HM.out]; exact hown') hgrow (hat.imp id (fun e => by rw [e]; simp [World.setCell])) (by rw [hN]; have := HLE.out; have := HN0.out; omega) (by rw [hN]; omega) (fun z hz => (List.mem_append.1 hz).elim (HY.out.1 z) (HY.out.2 z))
  have hblk : w2.heap[b]? = (w.setCell ⟨b, 0, none⟩ (.int .i32 1)).heap[b]? := hgrow.block b (by simpa [World.setCell] using HI.out) (fun e => HH.out.dsk.far e.symm)
  have d2 : w2.cell? ⟨b, 2, none⟩ = some (.slice sa n0 cap1) := (World.cell?_of_block (a := ⟨b, 2, none⟩) hblk).trans (HH.out.dsk.box.cell 2 _ rfl)
  have g2 : w2.frozen? ⟨b, 2, none⟩ = false := (World.frozen?_of_block (a := ⟨b, 2, none⟩) hblk).trans (HH.out.dsk.box.thaw 2)
  have g0 : w2.frozen? ⟨b, 0, none⟩ = false := (World.frozen?_of_block (a := ⟨b, 0, none⟩) hblk).trans (HH.out.dsk.box.thaw 0)
  have h2 := HH.out.trans G
  have R := hide (h2.trans (h2.dsk.lock 0))
  have L1 : Hid ((w2.setCell ⟨b, 2, none⟩ (.slice sa2 (n0 + n) cap2)).cell? ⟨b, 0, none⟩ = some (.int .i32 1)) := h2.dsk.box.cell 0 _ rfl
  clear hown' hgrow hat G h2 hblk HH OW HC
  go_wp2
  refine leaves_cons (f := 25) (args := #[.pointer (some ⟨b, 0, none⟩)]) (by simp) (by simp [go_sem]) ?_
  refine (unlock_deferred Try.muLib ⟨b, 0, none⟩ .returning _ (by exact L1.out) (by simp [g0])).mono ?_
  rintro e u' w'' ⟨rfl, rfl, rfl⟩
  exact ⟨_, results_tmp rfl _ _ _, rfl, _, R.out⟩
end
end Go.Proofs.Ytahpnfbjpdnapaa
