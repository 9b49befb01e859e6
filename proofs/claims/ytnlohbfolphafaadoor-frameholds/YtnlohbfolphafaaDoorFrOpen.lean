/- The contracts of cmp.Or (of two errors) and of Open. -/
import Derived.Test.YtnlohbfolphafaaDoorFrLk
namespace Go.Proofs.YtnlohbfolphafaaDoor
open Go.RowKit Go.Wire1 Go.Crc2 Go.Frm

set_option maxHeartbeats 2000000 in
set_option maxRecDepth 100000 in
theorem or2_any (g : Nat) (x y : Int) (w : World) (c0 : w.cell? ⟨g, 0, none⟩ = some (.int .i64 x)) (c1 : w.cell? ⟨g, 1, none⟩ = some (.int .i64 y)) (hy : y ≠ 0) :
    Calls Tryd.prog 36 #[.slice (some ⟨g, 0, none⟩) 2 2] w fun e w' => e = .returned (.int .i64 (if x = 0 then y else x)) ∧ w = w' := by
  have hy' : (y != 0) = true := by rw [bne_iff_ne]; exact hy
  by_cases hx : x = 0
  · subst hx
    rw [if_pos rfl]
    go_enter Tryd.func36, Tryd.ntmps36
    go_wp2
    go_loopw [8] (fun i wr => ∃ k : Nat, i = .int .i64 (k : Int) ∧ k ≤ 1 ∧ wr = w) (fun i _ => 2 - (intOf i).toNat)
    case atStart => exact ⟨0, rfl, by omega, rfl⟩
    case round =>
      obtain ⟨k, rfl, hk, rfl⟩ := hrel
      by_cases h0 : k < 1
      · obtain rfl : k = 0 := by omega
        go_wp2
        go_roundw
        case rel => exact ⟨1, by simp⟩
        case measure => simp [intOf]
      · obtain rfl : k = 1 := by omega
        go_wp2
        go_ret
        exact ⟨rfl, rfl⟩
  · rw [if_neg hx]
    have hx' : (x != 0) = true := by rw [bne_iff_ne]; exact hx
    go_enter Tryd.func36, Tryd.ntmps36
    go_wp2
    go_loopw [8] (fun i wr => i = .int .i64 0 ∧ wr = w) (fun _ _ => 0)
    case atStart => exact ⟨rfl, rfl⟩
    case round =>
      obtain ⟨rfl, rfl⟩ := hrel
      go_wp2
      go_ret
      exact ⟨rfl, rfl⟩

theorem pair_cells (W : World) (x y : Value) (T : TypeId) (b : Nat) (hb : b = W.heap.size) : (W.alloc (.cells #[x, y] T)).cell? ⟨b, 0, none⟩ = some x ∧ (W.alloc (.cells #[x, y] T)).cell? ⟨b, 1, none⟩ = some y := by
  subst hb
  exact ⟨by rw [World.cell?_alloc_at _ _ _ _ rfl]; rfl, by rw [World.cell?_alloc_at _ _ _ _ rfl]; rfl⟩
theorem below_drewN {B : Nat} {x y : World} (h : Below B x y) (q : Nat) : Below B x (y.drewN q) := ⟨h.os, h.tape, h.output, h.size, h.block⟩
/-- What Open answers. -/
def opn (v : Nat) (l : List Int) : List Int × Nat × Nat :=
  match Frm.look v l with
  | .short => ([], 0, 11)
  | .bad _ e => ([], 0, e)
  | .whole f t => ((l.take t).drop f, t + 4, 0)

set_option maxHeartbeats 2000000 in
set_option maxRecDepth 100000 in
theorem open_ver (v : Int) (sa : Option Addr) (n cap : Nat) (w : World) (hv : verB v = false) :
    Calls Tryd.prog 21 #[.int .i64 v, .slice sa n cap] w fun r w' => r = .returned (.tuple #[.slice none 0 0, .int .i64 0, .int .i64 2]) ∧ w = w' := by
  go_enter Tryd.func21, Tryd.ntmps21
  go_wp2_with fail
  refine (newStream_no v _ hv).mono ?_
  rintro r w1 ⟨rfl, rfl⟩
  go_wp2
  go_ret3
  exact ⟨rfl, rfl⟩

set_option maxHeartbeats 2000000 in
set_option maxRecDepth 100000 in
theorem open_any (v : Nat) (sa : Option Addr) (n cap : Nat) (l : List Int) (a : Nat → Addr) (w : World) (hv : v ≤ 2) (hs : Seg w sa n l) (hnc : n ≤ cap) (hc : cap ≤ maxLen) (hy : Byt l) (hH : Hal w) (hE : Errs w a) :
    Calls Tryd.prog 21 #[.int .i64 (v : Int), .slice sa n cap] w fun r w' => ∃ val, r = .returned (.tuple #[val, .int .i64 ((opn v l).2.1 : Int), .int .i64 ((opn v l).2.2 : Int)]) ∧ w'.ownsRow w.heap.size 5 1 val (opn v l).1.length ((opn v l).1.map (Value.int .u8)) ∧ Below w.heap.size w w' := by
  have HS := hide hs
  have HY := hide hy
  have HC := hide hc
  have EN0 : Hid (Env w a w.heap.size) := ⟨hH, hE, hE.lt, hE.five⟩
  obtain ⟨OP, hOP⟩ : ∃ OP, Hid (opn v l = OP) := ⟨_, rfl⟩
  rw [hOP.out]
  have hnl := hide hs.1
  have hn63 : n ≤ maxLen := hs.2.1
  unfold maxLen at hn63
  clear hs hy hH hE hc
  go_enter Tryd.func21, Tryd.ntmps21
  go_wp2_with fail
  refine (newStream_yes v _ hv w.heap.size (Nat.le_refl _)).mono ?_
  rintro r w1 ⟨rfl, S1, hb1, hz1⟩
  have HS1 := hide S1
  have HB1 := hide hb1
  have EN1 := hide (EN0.out.below hb1)
  have SG1 := hide (HS.out.below hb1 (Nat.le_refl _))
  obtain ⟨b, hb⟩ : ∃ b, b = w.heap.size := ⟨_, rfl⟩
  have hbe := hide hb
  rw [← hb] at HS1 EN1 ⊢
  have hz1' := hide hz1
  have hsep : Hid (∀ x, sa = some x → 0 < n → x.block ≠ b ∧ some x.block ≠ (Value.slice none 0 0).ownBlock) := by
    show ∀ x, sa = some x → 0 < n → x.block ≠ b ∧ some x.block ≠ (Value.slice none 0 0).ownBlock
    intro x hx hn
    have := HS.out.lt hn hx
    exact ⟨by omega, by intro e; cases e⟩
  clear S1 hb1 hb hz1
  go_wp2_with fail
  refine (feed_live w1 b (fresh v 0) (.slice none 0 0) b v 0 [] sa n cap l a HS1.out (liv_fresh v 0) SG1.out hnc HC.out HY.out hsep.out EN1.out).mono ?_
  rintro r w2 ⟨k, s2, pv2, rfl, F, hk⟩
  have FL := fed_look F hk
  rw [List.nil_append] at FL
  have B2 : Hid (Below w.heap.size w w2) := by
    have := F.stp.below HS1.out
    rw [hbe.out] at this
    exact HB1.out.trans this
  have hkl : k ≤ n := by have := F.le; have := hnl.out; omega
  rcases FL with ⟨h1, h2, h3⟩ | ⟨f, t, h1, h2, h3, h4, h5⟩ | ⟨e, h1, h2, h3, h4⟩
  · have hOE : Hid (OP = ([], 0, 11)) := by show _ = _; rw [← hOP.out]; unfold opn; rw [h1]
    have hp : s2.part ≠ 5 := by have := live_part h3; omega
    have hf : Hid (s2.fault = 0) := h3.fault
    have ST := hide F.stp.str
    clear h1 h2 h3 F hk
    go_wp2_with fail
    refine (take_no w2 b s2 pv2 _ ST.out hp).mono ?_
    rintro r w3 ⟨rfl, rfl⟩
    go_wp2_with fail
    refine (state_any w2 b s2 pv2 _ ST.out).mono ?_
    rintro r w3 ⟨rfl, q, rfl⟩
    rw [hf.out]
    go_wp2_with fail
    refine (or2_any _ 0 11 _ (pair_cells _ _ _ _ _ (by simp)).1 (pair_cells _ _ _ _ _ (by simp)).2 (by decide)).mono ?_
    rintro r w3 ⟨rfl, rfl⟩
    go_wp2
    go_ret3
    rw [hOE.out]
    exact ⟨_, rfl, World.ownsRow_nil _ _ _ _, (below_drewN B2.out q).alloc (Nat.le_trans B2.out.size (by simp)) _⟩
  · have hOE : Hid (OP = (s2.pay, t + 4, 0)) := by show _ = _; rw [← hOP.out]; unfold opn; rw [h1]; simp only [h4]
    have hkt : k = t + 4 := by simpa using h2
    have hp := h3.part
    have ST := hide F.stp.str
    have hpl : Hid (s2.place + s2.held ≤ 9223372036854775807) := by
      show _ ≤ _
      rw [h3.place, h3.held, List.length_take]
      have := hnl.out
      omega
    have hpay : Hid (s2.pay.length ≤ 1048576) := by
      obtain ⟨hd, Hh, e⟩ := h3.which
      have hb := hd_byt_len Hh (fun z hz => h3.byt z (by rw [e]; exact List.mem_append_left _ (List.mem_append_left _ hz)))
      exact hb.2.2.1
    have HKT := hide hkt
    clear h1 h2 h3 h4 h5 F hk hkt
    go_wp2_with fail
    refine (take_yes w2 b s2 pv2 _ ST.out hp hpay.out hpl.out).mono ?_
    rintro r w3 ⟨rfl, hrow, S3⟩
    have B3 : Hid (Below w.heap.size w w3) := by
      have := S3.below ST.out
      rw [hbe.out] at this
      exact B2.out.trans this
    have OW : Hid (w3.ownsRow w.heap.size 5 1 (.slice (some ⟨w2.heap.size, 0, none⟩) s2.pay.length s2.pay.length) s2.pay.length (s2.pay.map (Value.int .u8))) :=
      ⟨by simp, .inr ⟨w2.heap.size, s2.pay.length, _, rfl, B2.out.size, hrow, Nat.le_refl _, by have := hpay.out; unfold maxLen; omega, by simp, by rw [Nat.mul_one]; exact List.take_of_length_le (by simp)⟩⟩
    clear hrow S3
    go_wp2
    go_ret3
    rw [hOE.out]
    exact ⟨_, by rw [← HKT.out]; rfl, OW.out, B3.out⟩
  · have hOE : Hid (OP = ([], 0, e)) := by show _ = _; rw [← hOP.out]; unfold opn; rw [h1]
    have hp : s2.part ≠ 5 := by rw [h2]; show (6 : Nat) ≠ 5; decide
    have hf : Hid (s2.fault = e) := by show _ = _; rw [h2]; rfl
    have ST := hide F.stp.str
    have he : Hid (¬ ((e : Int) = 0)) := by show ¬ _; omega
    clear h1 h2 h3 h4 F hk
    go_wp2_with fail
    refine (take_no w2 b s2 pv2 _ ST.out hp).mono ?_
    rintro r w3 ⟨rfl, rfl⟩
    go_wp2_with fail
    refine (state_any w2 b s2 pv2 _ ST.out).mono ?_
    rintro r w3 ⟨rfl, q, rfl⟩
    rw [hf.out]
    go_wp2_with fail
    refine (or2_any _ (e : Int) 11 _ (pair_cells _ _ _ _ _ (by simp)).1 (pair_cells _ _ _ _ _ (by simp)).2 (by decide)).mono ?_
    rintro r w3 ⟨rfl, rfl⟩
    rw [if_neg he.out]
    go_wp2
    go_ret3
    rw [hOE.out]
    exact ⟨_, rfl, World.ownsRow_nil _ _ _ _, (below_drewN B2.out q).alloc (Nat.le_trans B2.out.size (by simp)) _⟩
end Go.Proofs.YtnlohbfolphafaaDoor
