/- Texts of the proof, joined. -/
import Derived.Test.YtpjdgbhjjknopaaDoorJ11
/- The document's own scan: its text. -/
namespace Go.Proofs.YtpjdgbhjjknopaaDoor
open Go.RowKit Go.Wire1

/-- What the document's scan reads as a text from k on. -/
def rcT (least top : Nat) (own : Int) (l : List Int) (k : Nat) (f : Int) : ByteArray × Nat × Int :=
  if (rcU top own l k f).2.2 = 0 then
    (if (rcU top own l k f).1 < least then (⟨#[]⟩, (rcU top own l k f).2.1, own)
     else if l.length < (rcU top own l k f).2.1 + (rcU top own l k f).1 then (⟨#[]⟩, (rcU top own l k f).2.1, 11)
     else (strOfNums ((l.drop (rcU top own l k f).2.1).take (rcU top own l k f).1), (rcU top own l k f).2.1 + (rcU top own l k f).1, 0))
  else (⟨#[]⟩, (rcU top own l k f).2.1, (rcU top own l k f).2.2)

set_option maxHeartbeats 2000000 in
set_option maxRecDepth 100000 in
theorem rcText_any (least top : Nat) (own : Int) (b n cap k : Nat) (f : Int) (sa : Option Addr) (l : List Int) (a : Nat → Addr) (w : World) (ho : own ≠ 0) (_h1 : least ≤ 1) (ht : top ≤ 65536) (h : Rdr w b sa n cap k f l a) :
    Calls Tryd.prog 27 #[.pointer (some ⟨b, 0, none⟩), .int .i64 (least : Int), .int .i64 (top : Int), .int .i64 own] w fun e w' => e = .returned (.string (rcT least top own l k f).1) ∧ Touch b w w' ∧ Rdr w' b sa n cap (rcT least top own l k f).2.1 (rcT least top own l k f).2.2 l a := by
  obtain ⟨x, hx⟩ : ∃ x, Hid ((rcU top own l k f).1 = x) := ⟨_, rfl⟩
  obtain ⟨k1, hk1⟩ : ∃ k1, Hid ((rcU top own l k f).2.1 = k1) := ⟨_, rfl⟩
  obtain ⟨f1, hf1⟩ : ∃ f1, Hid ((rcU top own l k f).2.2 = f1) := ⟨_, rfl⟩
  have hxt : x ≤ 65536 := by rw [← hx.out]; exact Nat.le_trans (rcU_le _ _ _ _ _) ht
  have EQ : Hid (rcT least top own l k f = if f1 = 0 then (if x < least then (⟨#[]⟩, k1, own) else if l.length < k1 + x then (⟨#[]⟩, k1, 11) else (strOfNums ((l.drop k1).take x), k1 + x, 0)) else (⟨#[]⟩, k1, f1)) := by
    unfold rcT; rw [hx.out, hk1.out, hf1.out]; rfl
  have ho1 : (own == 0) = false := beq_eq_false_iff_ne.2 ho
  have ho2 : (own != 0) = true := by rw [bne_iff_ne]; exact ho
  have HS := hide h
  have HO := hide ho
  have ht0 : decide ((top : Int) < 0) = false := decide_eq_false (by omega)
  clear h ho
  go_enter Tryd.func27, Tryd.ntmps27
  go_wp2_with fail
  refine (rcUint_any top own b n cap k f sa l a _ HO.out (by omega) HS.out).mono ?_
  rintro e w1 ⟨rfl, T1, R1⟩
  rw [hx.out]
  rw [hk1.out, hf1.out] at R1
  have c0 : w1.cell? ⟨b, 0, none⟩ = some (.slice sa n cap) := R1.ready.cur.1
  have c1 : w1.cell? ⟨b, 1, none⟩ = some (.int .i64 (k1 : Int)) := R1.ready.cur.2.1
  have g1 : w1.frozen? ⟨b, 1, none⟩ = false := R1.ready.cur.2.2
  have c2 := R1.fault
  have g2 := R1.thaw
  have hcm := R1.capMax
  have hcl := R1.capLe
  have hkn := R1.ready.le
  have hl := hide R1.ready.seg.1
  unfold maxLen at hcm
  have HR := hide R1
  have HT := hide T1
  clear T1 R1 hx hk1 hf1
  by_cases hf : f1 = 0
  · subst hf
    by_cases hlt : x < least
    · have HQ : Hid (rcT least top own l k f = (⟨#[]⟩, k1, own)) := by rw [EQ.out, if_pos rfl, if_pos hlt]; rfl
      clear EQ
      go_wp2
      go_quiet (fail)
      go_wp2
      go_ret
      rw [HQ.out]
      have D := rc_break HR.out 0 own
      exact ⟨rfl, HT.out.trans (D.1.drewN _), D.2.drewN _⟩
    · have dl : decide ((x : Int) < (least : Int)) = false := decide_eq_false (by omega)
      by_cases hfit : n < k1 + x
      · have HQ : Hid (rcT least top own l k f = (⟨#[]⟩, k1, 11)) := by rw [EQ.out, if_pos rfl, if_neg hlt, if_pos (by rw [hl.out]; exact hfit)]; rfl
        clear EQ
        go_wp2
        go_quiet (fail)
        go_wp2
        go_ret
        rw [HQ.out]
        exact ⟨rfl, HT.out.trans (rc_break HR.out _ 11).1, (rc_break HR.out _ 11).2⟩
      · have HQ : Hid (rcT least top own l k f = (strOfNums ((l.drop k1).take x), k1 + x, 0)) := by rw [EQ.out, if_pos rfl, if_neg hlt, if_neg (by rw [hl.out]; exact hfit)]; rfl
        clear EQ
        by_cases hx0 : x = 0
        · subst hx0
          have hcz : ∀ (ad : Option Addr) (c : Nat) (w : World), (convert 22 9 (.slice ad 0 c)).run Tryd.prog w = .ok (.string (strOfNums [])) w := conv_zero
          by_cases hcc : cap = k1
          · subst hcc
            go_wp2
            go_quiet (fail)
            go_wp2
            go_quiet (fail)
            go_wp2
            go_ret
            rw [HQ.out]
            try rw [World.drewN_drewN]
            exact ⟨by simp, HT.out.trans (rc_moved (m := 0) HR.out _ _ (by simp) (by omega)).1, (rc_moved (m := 0) HR.out _ _ (by simp) (by omega)).2⟩
          · have hcp : 0 < (cap : Int) - (k1 : Int) := by omega
            go_wp2
            go_quiet (fail)
            go_wp2
            go_quiet (fail)
            go_wp2
            go_ret
            rw [HQ.out]
            try rw [World.drewN_drewN]
            exact ⟨by simp, HT.out.trans (rc_moved (m := 0) HR.out _ _ (by simp) (by omega)).1, (rc_moved (m := 0) HR.out _ _ (by simp) (by omega)).2⟩
        · obtain ⟨sb, so, rfl, _⟩ := HR.out.ready.seg.2.2 (by omega)
          have hcv : ∀ q, (convert 22 9 (.slice (some ⟨sb, so + k1, none⟩) x (cap - k1))).run Tryd.prog (w1.drewN q) = .ok (.string (strOfNums ((l.drop k1).take x))) (w1.drewN q) := fun q => by
            have sm := (HR.out.ready.seg.drewN q).mid (k := k1) (m := x) (by omega)
            obtain ⟨b', o', e', hc'⟩ := sm.2.2 (by omega)
            cases e'
            exact run_convert_bytes_arg (P := Tryd.prog) _ 22 5 Tryd.underlying22 Tryd.underlying5 sb (so + k1) x (cap - k1) _ sm.1 hc' 9 Tryd.underlying9
          generalize strOfNums ((l.drop k1).take x) = S at *
          have hcc : 0 < (cap : Int) - (k1 : Int) := by omega
          go_wp2
          go_quiet (fail)
          go_wp2
          go_quiet (fail)
          go_wp2
          go_ret
          rw [HQ.out]
          try rw [World.drewN_drewN]
          exact ⟨rfl, HT.out.trans (rc_move (m := x) HR.out _ (by omega)).1, (rc_move (m := x) HR.out _ (by omega)).2⟩
  · have HQ : Hid (rcT least top own l k f = (⟨#[]⟩, k1, f1)) := by rw [EQ.out, if_neg hf]; rfl
    have hb : (f1 != 0) = true := by rw [bne_iff_ne]; exact hf
    have hb2 : (f1 == 0) = false := beq_eq_false_iff_ne.2 hf
    clear hf EQ
    go_wp2
    go_quiet (fail)
    go_wp2
    go_ret
    rw [HQ.out]
    exact ⟨rfl, HT.out.drewN _, HR.out.drewN _⟩
end Go.Proofs.YtpjdgbhjjknopaaDoor
