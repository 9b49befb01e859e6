/- The contract of a stream's takePayload. -/
import Derived.Test.YtiajkdjljilndaaDoorFrPay
namespace Go.Proofs.YtiajkdjljilndaaDoor
open Go.RowKit Go.Wire1 Go.Crc2 Go.Frm

theorem cells_tail {s : Sm} (pv v : Value) (h6 : s.head.length = 6) (x : R) (hv : v = nr x) : (cellsS s pv).set 13 v = cellsS { s with sum := x } pv := by subst hv; simp [cellsS, h6]
/-- Behind gather. -/
def _root_.Go.Frm.Sm.mid (s : Sm) (run : List Int) : Sm := { s with pay := s.pay ++ run, sum := upd s.sum run }

set_option maxHeartbeats 800000 in
set_option maxRecDepth 100000 in
theorem takePayload_all (w : World) (b : Nat) (s : Sm) (pv : Value) (E0 : Nat) (sa : Option Addr) (n cap : Nat) (l : List Int) (a : Nat → Addr) (h : Str w b s pv E0) (hs : Seg w sa n l) (hnc : n ≤ cap) (hy : Byt l) (hn : 0 < n) (hsep : ∀ x, sa = some x → 0 < n → x.block ≠ b ∧ some x.block ≠ pv.ownBlock) (en : Env w a E0) (hh : s.held ≤ 1048600) (hl4 : s.left ≤ 1048576) (hle : s.left ≤ n) (hpos : 0 < s.left) (hb : s.pay.length + s.left ≤ 1048576) :
    Calls Tryd.prog 35 #[.pointer (some ⟨b, 0, none⟩), .slice sa n cap] w fun r w' => r = .returned (.int .i64 ((s.left : Nat) : Int)) ∧ ∃ pv', Stp w w' b (s.tPay (l.take s.left)) pv pv' E0 := by
  have hn63 : n ≤ maxLen := hs.2.1
  unfold maxLen at hn63
  have c5 := h.at_ 5 _ rfl
  have hkl : s.left ≤ s.left := by omega
  have hkn : s.left ≤ n := by omega
  have hrl : Hid ((l.take s.left).length = s.left) := by show _ = _; rw [List.length_take, hs.1]; omega
  obtain ⟨sb, so, rfl, _⟩ := hs.2.2 hn
  have hsr : Hid (Seg w (some ⟨sb, so, none⟩) s.left (l.take s.left)) := hs.take hkn
  have hyr := hide (byt_take hy s.left)
  have hsp := hide (hsep ⟨sb, so, none⟩ rfl hn)
  have HEN := hide en
  have HZ : Hid ((s.left - s.left = 0)) := by show (_ = _); omega
  clear hs hy hsep en
  generalize l.take s.left = run at *
  have HG := hide (gather_some w b s pv E0 sb so s.left cap run h hsr.out hsp.out.1 hsp.out.2 hpos (by omega))
  have HH := hide h
  clear h hb hn
  go_enter Tryd.func35, Tryd.ntmps35
  go_wp2_with fail
  refine HG.out.mono ?_
  rintro r w1 ⟨rfl, pv1, S1⟩
  have c13 := S1.str.c13
  have ENE := HEN.out.below (S1.below HH.out)
  have SGR := hide (S1.tch.seg hsr.out (fun x e _ => by cases e; exact hsp.out))
  have HAL := hide ENE.hal
  have HS1 := hide S1
  simp only [nr, Sm.more] at c13
  clear S1 ENE
  go_wp2_with fail
  refine (update_any s.sum _ (s.left) _ run _ SGR.out hyr.out HAL.out).mono ?_
  rintro r w2 ⟨rfl, rfl⟩
  have S1 := HS1.out
  have c3 := S1.str.at_ 3 _ rfl
  have c4 := S1.str.at_ 4 _ rfl
  have d5 := S1.str.at_ 5 _ rfl
  have t3 := S1.str.box.thaw 3
  have t4 := S1.str.box.thaw 4
  have t5 := S1.str.box.thaw 5
  have t13 := S1.str.box.thaw 13
  have P1 := S1.trans (S1.str.put 13 (nr (upd s.sum run)) (s.mid run) (by simp only [cellsS, Sm.more, Sm.mid]; rw [List.set_append_right _ _ (by simp), List.set_append_right _ _ (by have := S1.str.six; (try simp only [Sm.more] at this); simp [this])]; have := S1.str.six; (try simp only [Sm.more] at this); simp [this]) rfl S1.str.six)
  have P2 := P1.trans (P1.str.put 3 (.int .i64 ((s.held : Int) + ((s.left : Nat) : Int))) { s.mid run with held := s.held + s.left } rfl rfl S1.str.six)
  have P3 := P2.trans (P2.str.put 5 (.int .i64 0) { s.mid run with held := s.held + s.left, left := s.left - s.left } (by first | rfl | (simp only [cellsS]; rw [Int.ofNat_sub hkl]; first | rfl | (simp only [Int.sub_self]; rfl))) rfl S1.str.six)
  have P4 := P3.trans (P3.str.put 4 (.int .i64 4) { s.mid run with held := s.held + s.left, left := s.left - s.left, part := 4 } rfl rfl S1.str.six)
  have P5 := P4.trans (P4.str.put 5 (.int .i64 4) { s.mid run with held := s.held + s.left, left := 4, part := 4 } rfl rfl S1.str.six)
  have HP3 := hide P3
  have HP5 := hide P5
  obtain ⟨u, hu⟩ : ∃ u, Hid (upd s.sum run = u) := ⟨_, rfl⟩
  rw [hu.out] at HP3 HP5 ⊢
  simp only [nr, Sm.more] at c3 c4 d5 HP3 HP5 ⊢
  clear P1 P2 P3 P4 P5 S1 HS1 SGR HAL HEN HH
  go_wp2
  go_ret
  refine ⟨rfl, pv1, ?_⟩
  rw [Sm.tPay, hrl.out, if_pos HZ.out]
  have e : ({ s.got run with part := 4, left := 4 } : Sm) = { s.mid run with held := s.held + s.left, left := 4, part := 4 } := by simp only [Sm.got, Sm.mid, hrl.out]
  rw [e]; exact HP5.out

set_option maxHeartbeats 800000 in
set_option maxRecDepth 100000 in
theorem takePayload_part (w : World) (b : Nat) (s : Sm) (pv : Value) (E0 : Nat) (sa : Option Addr) (n cap : Nat) (l : List Int) (a : Nat → Addr) (h : Str w b s pv E0) (hs : Seg w sa n l) (hnc : n ≤ cap) (hy : Byt l) (hn : 0 < n) (hsep : ∀ x, sa = some x → 0 < n → x.block ≠ b ∧ some x.block ≠ pv.ownBlock) (en : Env w a E0) (hh : s.held ≤ 1048600) (hl4 : s.left ≤ 1048576) (hle : n < s.left) (hb : s.pay.length + s.left ≤ 1048576) :
    Calls Tryd.prog 35 #[.pointer (some ⟨b, 0, none⟩), .slice sa n cap] w fun r w' => r = .returned (.int .i64 ((n : Nat) : Int)) ∧ ∃ pv', Stp w w' b (s.tPay (l.take n)) pv pv' E0 := by
  have hn63 : n ≤ maxLen := hs.2.1
  unfold maxLen at hn63
  have c5 := h.at_ 5 _ rfl
  have hkl : n ≤ s.left := by omega
  have hkn : n ≤ n := by omega
  have hrl : Hid ((l.take n).length = n) := by show _ = _; rw [List.length_take, hs.1]; omega
  obtain ⟨sb, so, rfl, _⟩ := hs.2.2 hn
  have hsr : Hid (Seg w (some ⟨sb, so, none⟩) n (l.take n)) := hs.take hkn
  have hyr := hide (byt_take hy n)
  have hsp := hide (hsep ⟨sb, so, none⟩ rfl hn)
  have HEN := hide en
  have HZ : Hid (¬ (s.left - n = 0)) := by show ¬ (_ = _); omega
  clear hs hy hsep en
  generalize l.take n = run at *
  have HG := hide (gather_some w b s pv E0 sb so n cap run h hsr.out hsp.out.1 hsp.out.2 hn (by omega))
  have HH := hide h
  have hne : ((s.left : Int) - (n : Int) == 0) = false := by simp; omega
  clear h hb hn
  go_enter Tryd.func35, Tryd.ntmps35
  go_wp2_with fail
  refine HG.out.mono ?_
  rintro r w1 ⟨rfl, pv1, S1⟩
  have c13 := S1.str.c13
  have ENE := HEN.out.below (S1.below HH.out)
  have SGR := hide (S1.tch.seg hsr.out (fun x e _ => by cases e; exact hsp.out))
  have HAL := hide ENE.hal
  have HS1 := hide S1
  simp only [nr, Sm.more] at c13
  clear S1 ENE
  go_wp2_with fail
  refine (update_any s.sum _ (n) _ run _ SGR.out hyr.out HAL.out).mono ?_
  rintro r w2 ⟨rfl, rfl⟩
  have S1 := HS1.out
  have c3 := S1.str.at_ 3 _ rfl
  have c4 := S1.str.at_ 4 _ rfl
  have d5 := S1.str.at_ 5 _ rfl
  have t3 := S1.str.box.thaw 3
  have t4 := S1.str.box.thaw 4
  have t5 := S1.str.box.thaw 5
  have t13 := S1.str.box.thaw 13
  have P1 := S1.trans (S1.str.put 13 (nr (upd s.sum run)) (s.mid run) (by simp only [cellsS, Sm.more, Sm.mid]; rw [List.set_append_right _ _ (by simp), List.set_append_right _ _ (by have := S1.str.six; (try simp only [Sm.more] at this); simp [this])]; have := S1.str.six; (try simp only [Sm.more] at this); simp [this]) rfl S1.str.six)
  have P2 := P1.trans (P1.str.put 3 (.int .i64 ((s.held : Int) + ((n : Nat) : Int))) { s.mid run with held := s.held + n } rfl rfl S1.str.six)
  have P3 := P2.trans (P2.str.put 5 (.int .i64 ((s.left : Int) - (n : Int))) { s.mid run with held := s.held + n, left := s.left - n } (by first | rfl | (simp only [cellsS]; rw [Int.ofNat_sub hkl]; first | rfl | (simp only [Int.sub_self]; rfl))) rfl S1.str.six)
  have P4 := P3.trans (P3.str.put 4 (.int .i64 4) { s.mid run with held := s.held + n, left := s.left - n, part := 4 } rfl rfl S1.str.six)
  have P5 := P4.trans (P4.str.put 5 (.int .i64 4) { s.mid run with held := s.held + n, left := 4, part := 4 } rfl rfl S1.str.six)
  have HP3 := hide P3
  have HP5 := hide P5
  obtain ⟨u, hu⟩ : ∃ u, Hid (upd s.sum run = u) := ⟨_, rfl⟩
  rw [hu.out] at HP3 HP5 ⊢
  simp only [nr, Sm.more] at c3 c4 d5 HP3 HP5 ⊢
  clear P1 P2 P3 P4 P5 S1 HS1 SGR HAL HEN HH
  go_wp2
  go_ret
  refine ⟨rfl, pv1, ?_⟩
  rw [Sm.tPay, hrl.out, if_neg HZ.out]
  have e : s.got run = { s.mid run with held := s.held + n, left := s.left - n } := by simp only [Sm.got, Sm.mid, hrl.out]
  rw [e]; exact HP3.out

set_option maxHeartbeats 800000 in
set_option maxRecDepth 100000 in
theorem takePayload_none (w : World) (b : Nat) (s : Sm) (pv : Value) (E0 : Nat) (sa : Option Addr) (n cap : Nat) (l : List Int) (a : Nat → Addr) (h : Str w b s pv E0) (hs : Seg w sa n l) (_hnc : n ≤ cap) (hy : Byt l) (hn : 0 < n) (hsep : ∀ x, sa = some x → 0 < n → x.block ≠ b ∧ some x.block ≠ pv.ownBlock) (en : Env w a E0) (hh : s.held ≤ 1048600) (hl4 : s.left ≤ 1048576) (hzero : s.left = 0) (hp : s.pay = []) :
    Calls Tryd.prog 35 #[.pointer (some ⟨b, 0, none⟩), .slice sa n cap] w fun r w' => r = .returned (.int .i64 ((0 : Nat) : Int)) ∧ ∃ pv', Stp w w' b (s.tPay (l.take 0)) pv pv' E0 := by
  have hn63 : n ≤ maxLen := hs.2.1
  unfold maxLen at hn63
  have c5 := h.at_ 5 _ rfl
  have hkl : 0 ≤ s.left := by omega
  have hkn : 0 ≤ n := by omega
  have hrl : Hid ((l.take 0).length = 0) := by show _ = _; rw [List.length_take, hs.1]; omega
  obtain ⟨sb, so, rfl, _⟩ := hs.2.2 hn
  have hsr : Hid (Seg w (some ⟨sb, so, none⟩) 0 (l.take 0)) := hs.take hkn
  have hyr := hide (byt_take hy 0)
  have hsp := hide (hsep ⟨sb, so, none⟩ rfl hn)
  have HEN := hide en
  have HZ : Hid ((s.left - 0 = 0)) := by show (_ = _); omega
  clear hs hy hsep en
  generalize l.take 0 = run at *
  obtain rfl : run = [] := List.length_eq_zero_iff.1 hrl.out
  have HG := hide (gather_none w b s pv E0 (some ⟨sb, so, none⟩) cap h hp)
  have HH := hide h
  have hmo : Hid (s = s.more []) := by show _ = _; simp [Sm.more]
  have c5' : w.cell? ⟨b, 5, none⟩ = some (.int .i64 0) := by rw [hzero] at c5; exact c5
  have hze : ((s.left : Int) == 0) = true := by rw [hzero]; rfl
  clear h hp hzero hn c5
  go_enter Tryd.func35, Tryd.ntmps35
  go_wp2_with fail
  refine HG.out.mono ?_
  rintro r w1 ⟨rfl, S1⟩
  replace S1 : Stp w w1 b (s.more []) pv pv E0 := by rw [← hmo.out]; exact S1
  have c13 := S1.str.c13
  have ENE := HEN.out.below (S1.below HH.out)
  have SGR := hide (S1.tch.seg hsr.out (fun x e _ => by cases e; exact hsp.out))
  have HAL := hide ENE.hal
  have HS1 := hide S1
  simp only [nr, Sm.more] at c13
  clear S1 ENE
  go_wp2_with fail
  refine (update_any s.sum _ (0) _ ([] : List Int) _ SGR.out hyr.out HAL.out).mono ?_
  rintro r w2 ⟨rfl, rfl⟩
  have S1 := HS1.out
  have c3 := S1.str.at_ 3 _ rfl
  have c4 := S1.str.at_ 4 _ rfl
  have d5 := S1.str.at_ 5 _ rfl
  have t3 := S1.str.box.thaw 3
  have t4 := S1.str.box.thaw 4
  have t5 := S1.str.box.thaw 5
  have t13 := S1.str.box.thaw 13
  have P1 := S1.trans (S1.str.put 13 (nr (upd s.sum ([] : List Int))) (s.mid ([] : List Int)) (by simp only [cellsS, Sm.more, Sm.mid]; rw [List.set_append_right _ _ (by simp), List.set_append_right _ _ (by have := S1.str.six; (try simp only [Sm.more] at this); simp [this])]; have := S1.str.six; (try simp only [Sm.more] at this); simp [this]) rfl S1.str.six)
  have P2 := P1.trans (P1.str.put 3 (.int .i64 (s.held : Int)) { s.mid ([] : List Int) with held := s.held + 0 } rfl rfl S1.str.six)
  have P3 := P2.trans (P2.str.put 5 (.int .i64 (s.left : Int)) { s.mid ([] : List Int) with held := s.held + 0, left := s.left - 0 } (by first | rfl | (simp only [cellsS]; rw [Int.ofNat_sub hkl]; first | rfl | (simp only [Int.sub_self]; rfl))) rfl S1.str.six)
  have P4 := P3.trans (P3.str.put 4 (.int .i64 4) { s.mid ([] : List Int) with held := s.held + 0, left := s.left - 0, part := 4 } rfl rfl S1.str.six)
  have P5 := P4.trans (P4.str.put 5 (.int .i64 4) { s.mid ([] : List Int) with held := s.held + 0, left := 4, part := 4 } rfl rfl S1.str.six)
  have HP3 := hide P3
  have HP5 := hide P5
  obtain ⟨u, hu⟩ : ∃ u, Hid (upd s.sum ([] : List Int) = u) := ⟨_, rfl⟩
  rw [hu.out] at HP3 HP5 ⊢
  simp only [nr, Sm.more] at c3 c4 d5 HP3 HP5 ⊢
  clear P1 P2 P3 P4 P5 S1 HS1 SGR HAL HEN HH
  go_wp2
  go_ret
  refine ⟨rfl, pv, ?_⟩
  rw [Sm.tPay, hrl.out, if_pos HZ.out]
  have e : ({ s.got ([] : List Int) with part := 4, left := 4 } : Sm) = { s.mid ([] : List Int) with held := s.held + 0, left := 4, part := 4 } := by simp only [Sm.got, Sm.mid, hrl.out]
  rw [e]; exact HP5.out

end Go.Proofs.YtiajkdjljilndaaDoor
