/- Texts of the proof, joined. -/
import Derived.Test.YtdokagebfeejbaaGreatDoorJ01
import Derived.Test.YtdokagebfeejbaaGreatDoorJ26
import Derived.Test.YtdokagebfeejbaaGreatDoorJ40
import Derived.Test.YtdokagebfeejbaaGreatDoorJ03
import Derived.Test.YtdokagebfeejbaaGreatDoorRows
import Derived.WalkKit
import Derived.Deep.QuietTactic
import Derived.BigQuiet
import Derived.Test.YtdokagebfeejbaaGreatDoorJ17
import Derived.Deep.Cut
import Derived.Test.YtdokagebfeejbaaGreatDoorJ02
/- The contract of Encode. -/
namespace Go.Proofs.YtdokagebfeejbaaGreatDoor
open Go.RowKit Go.Wire1

set_option maxHeartbeats 2000000 in
set_option maxRecDepth 100000 in
theorem menc_balloted (v n : Int) (k row num x y p q st : Int) (sm : Bool) (c : Cm) (sq : Int) (ua : Option Addr) (uk uc : Nat) (w : World) (Z LY : Value) (L : List Int) (hC : Hid (∀ W, Below w.heap.size w W → Calls Tryz.prog 7 #[.int .i64 v, .int .i64 n, .agg #[.int .i64 k, .int .i64 row, .int .i64 num, .int .i64 x, .int .i64 y, .int .i64 p, .int .i64 q, .int .i64 st, .bool sm, .int .i64 c.kind, .int .i64 c.client, .int .i64 c.req, .string c.key, .string c.key2, .string c.val, .string c.old, .int .i64 c.n, .int .i64 sq, .slice ua uk uc]] W fun r w' => r = .returned (.int .i64 0) ∧ Below W.heap.size W w'))
    (hS : Hid (∀ W, Calls Tryz.prog 22 #[.agg #[.int .i64 k, .int .i64 row, .int .i64 num, .int .i64 x, .int .i64 y, .int .i64 p, .int .i64 q, .int .i64 st, .bool sm, .int .i64 c.kind, .int .i64 c.client, .int .i64 c.req, .string c.key, .string c.key2, .string c.val, .string c.old, .int .i64 c.n, .int .i64 sq, .slice ua uk uc]] W fun r w' => r = .returned (.iface 98 Z) ∧ Below W.heap.size W w')) (hL : Hid (∀ W, Calls Tryz.prog 38 #[.int .i64 v] W fun r w' => r = .returned LY ∧ Below W.heap.size W w'))
    (hB : Hid (∀ W, Below w.heap.size w W → Calls Tryz.prog 186 #[Z, LY] W fun r w' => Bts W L r w')) :
    Calls Tryz.prog 14 #[.int .i64 v, .int .i64 n, .agg #[.int .i64 k, .int .i64 row, .int .i64 num, .int .i64 x, .int .i64 y, .int .i64 p, .int .i64 q, .int .i64 st, .bool sm, .int .i64 c.kind, .int .i64 c.client, .int .i64 c.req, .string c.key, .string c.key2, .string c.val, .string c.old, .int .i64 c.n, .int .i64 sq, .slice ua uk uc]] w fun r w' => ∃ u, r = .returned (.tuple #[u, .int .i64 0]) ∧ w'.ownsRow w.heap.size 5 1 u L.length (L.map (Value.int .u8)) ∧ Below w.heap.size w w' := by
  obtain ⟨X, hX⟩ : ∃ X, X = w.alloc (.cells #[.int .i64 k, .int .i64 row, .int .i64 num, .int .i64 x, .int .i64 y, .int .i64 p, .int .i64 q, .int .i64 st, .bool sm, .int .i64 c.kind, .int .i64 c.client, .int .i64 c.req, .string c.key, .string c.key2, .string c.val, .string c.old, .int .i64 c.n, .int .i64 sq, .slice ua uk uc] 30) := ⟨_, rfl⟩
  have QX : Hid (Blk X w.heap.size [.int .i64 k, .int .i64 row, .int .i64 num, .int .i64 x, .int .i64 y, .int .i64 p, .int .i64 q, .int .i64 st, .bool sm, .int .i64 c.kind, .int .i64 c.client, .int .i64 c.req, .string c.key, .string c.key2, .string c.val, .string c.old, .int .i64 c.n, .int .i64 sq, .slice ua uk uc]) := by rw [hX]; exact blk_new w 30 [.int .i64 k, .int .i64 row, .int .i64 num, .int .i64 x, .int .i64 y, .int .i64 p, .int .i64 q, .int .i64 st, .bool sm, .int .i64 c.kind, .int .i64 c.client, .int .i64 c.req, .string c.key, .string c.key2, .string c.val, .string c.old, .int .i64 c.n, .int .i64 sq, .slice ua uk uc]
  have BX : Hid (Below w.heap.size w X) := by rw [hX]; exact (Below.refl _ w).alloc (Nat.le_refl _) _
  have hm : ∀ w, (Go.method 361 98 Z "moot/msg.bytes").run Tryz.prog w = .ok (186, Z) w := fun _ => by kernel_rfl
  have hna : ∀ w, (Go.nilAhead 361 98 Z "moot/msg.bytes").run Tryz.prog w = .ok (some false) w := fun _ => by kernel_rfl
  go_enter Tryz.func14, Tryz.ntmps14
  go_upto_region 1 with fail
  rw [← hX]
  clear hX
  go_wp2_with (first | (refine wpList_load_mid rfl 30 _ rfl w.heap.size 0 rfl [.int .i64 k, .int .i64 row, .int .i64 num, .int .i64 x, .int .i64 y, .int .i64 p, .int .i64 q, .int .i64 st, .bool sm, .int .i64 c.kind, .int .i64 c.client, .int .i64 c.req, .string c.key, .string c.key2, .string c.val, .string c.old, .int .i64 c.n, .int .i64 sq, .slice ua uk uc] _ (QX.out.range) Tryz.underlying30 rfl (by kernel_rfl) ?_))
  refine (hC.out X BX.out).mono ?_
  rintro r X1 ⟨rfl, b1⟩
  have Q1 := hide (QX.out.on b1)
  have B1 : Hid (Below w.heap.size w X1) := BX.out.trans (b1.mono BX.out.size)
  clear b1 QX BX
  go_upto_region 4 with fail
  have S0 := belX X1
  refine wp_region_noPanic ?_
  refine wp_region_held_drew (S := (fun w' => Below X1.heap.size X1 w')) (by kernel_rfl) S0 (fun hHeld => ?_)
  refine tq 0 rfl (yieldsIf_load_mid (by rfl) 30 _ rfl w.heap.size 0 rfl [.int .i64 k, .int .i64 row, .int .i64 num, .int .i64 x, .int .i64 y, .int .i64 p, .int .i64 q, .int .i64 st, .bool sm, .int .i64 c.kind, .int .i64 c.client, .int .i64 c.req, .string c.key, .string c.key2, .string c.val, .string c.old, .int .i64 c.n, .int .i64 sq, .slice ua uk uc] _ (fun _ h => Q1.out.sub h 0 [.int .i64 k, .int .i64 row, .int .i64 num, .int .i64 x, .int .i64 y, .int .i64 p, .int .i64 q, .int .i64 st, .bool sm, .int .i64 c.kind, .int .i64 c.client, .int .i64 c.req, .string c.key, .string c.key2, .string c.val, .string c.old, .int .i64 c.n, .int .i64 sq, .slice ua uk uc] rfl) Tryz.underlying30 rfl (by kernel_rfl)) ?_
  refine tk 2 ?_
  refine wpAnyH_ready (rs := [1]) (by kernel_rfl) (by simp) ?_
  refine AllReadyH.cons rfl (fun K hK => ?_) AllReadyH.nil
  rw [if_pos (by rfl)]
  go_wp2_with fail
  refine (hS.out _).mono ?_
  rintro e W1 ⟨rfl, b2⟩
  have P1 := S0.trans (b2.mono S0.size)
  clear b2
  refine hK.out _ _ P1 (fun hHeld => ?_)
  clear hK K
  try simp only [Act.put, List.getElem_toArray, List.getElem_cons_succ, List.getElem_cons_zero, List.setIfInBounds_toArray, List.set_cons_zero, List.set_cons_succ]
  refine tk 4 ?_
  refine tk 5 ?_
  refine tk 6 ?_
  refine wpAnyH_ready (rs := [3]) (by kernel_rfl) (by simp) ?_
  refine AllReadyH.cons rfl (fun K hK => ?_) AllReadyH.nil
  rw [if_pos (by rfl)]
  go_wp2_with fail
  refine (hL.out _).mono ?_
  rintro e W2 ⟨rfl, b3⟩
  have P2 := P1.trans (b3.mono P1.size)
  clear b3
  refine hK.out _ _ P2 (fun hHeld => ?_)
  clear hK K
  try simp only [Act.put, List.getElem_toArray, List.getElem_cons_succ, List.getElem_cons_zero, List.setIfInBounds_toArray, List.set_cons_zero, List.set_cons_succ]
  refine wpAnyH_ready (rs := [7]) (by kernel_rfl) (by simp) ?_
  refine AllReadyH.cons rfl (fun K hK => ?_) AllReadyH.nil
  rw [if_pos (by rfl)]
  go_wp2_with fail
  refine (hB.out W2 (B1.out.trans (P2.mono B1.out.size))).mono ?_
  rintro e W3 ⟨u, rfl, o3, b3⟩
  have P3 := P2.trans (b3.mono P2.size)
  have RR := hide (bts_box (B1.out.trans (P2.mono B1.out.size)) ⟨u, rfl, o3, b3⟩)
  refine hK.out _ _ P3 (fun hHeld => ?_)
  clear hK K
  try simp only [Act.put, List.getElem_toArray, List.getElem_cons_succ, List.getElem_cons_zero, List.setIfInBounds_toArray, List.set_cons_zero, List.set_cons_succ]
  refine tk 8 ?_
  refine tk 9 ?_
  refine wpAnyH_done (by kernel_rfl) ?_ _
  refine NoPanic.normal ?_
  go_wp2
  go_ret2
  obtain ⟨u', e', r1, r2⟩ := RR.out
  cases e'
  exact ⟨_, rfl, r1, r2⟩
end Go.Proofs.YtdokagebfeejbaaGreatDoor
/- The plain mathematics: what is packed is read back; every beginning ends too early; what is read has one form. -/
namespace Go.Wire1
open Go.RowKit

end Go.Wire1
/- What Check takes: the bounds of a valid message's fields; its bytes. -/
namespace Go.Proofs.YtdokagebfeejbaaGreatDoor
open Go.RowKit Go.Wire1

/-- A valid message's bytes, in parts. -/
def msP (v : Int) (m : Ms) : Nat → List (List Int)
  | 1 => [staP v m.kind.toNat m.row.toNat m.num.toNat, balP v m.x.toNat m.y.toNat, lodP v m.c m.sq.toNat m.dl]
  | 2 => [staP v m.kind.toNat m.row.toNat m.num.toNat, balP v m.x.toNat m.y.toNat, attP v m.sq.toNat m.dl]
  | 3 => [staP v m.kind.toNat m.row.toNat m.num.toNat, balP v m.x.toNat m.y.toNat]
  | 4 => [staP v m.kind.toNat m.row.toNat m.num.toNat, lodP v m.c m.sq.toNat m.dl]
  | 5 => [staP v m.kind.toNat m.row.toNat m.num.toNat, balP v m.x.toNat m.y.toNat, votP v 0 false]
  | 6 => [staP v m.kind.toNat m.row.toNat m.num.toNat, balP v m.x.toNat m.y.toNat, votP v m.st.toNat m.sm, balP v m.p.toNat m.q.toNat, lodP v m.c m.sq.toNat m.dl]
  | 7 => [staP v m.kind.toNat m.row.toNat m.num.toNat, balP v m.x.toNat m.y.toNat, balP v m.p.toNat m.q.toNat]
  | _ => [staP v m.kind.toNat m.row.toNat m.num.toNat]
def msB (v : Int) (m : Ms) : List Int := (msP v m (shK m)).flatten
def hasB : Nat → Bool
  | 1 => true
  | 2 => true
  | 3 => true
  | 5 => true
  | 6 => true
  | 7 => true
  | _ => false
end Go.Proofs.YtdokagebfeejbaaGreatDoor
/- Encode, at every message. -/
namespace Go.Proofs.YtdokagebfeejbaaGreatDoor
open Go.RowKit Go.Wire1

/-- What Encode answers. -/
def EnPost (v n : Int) (m : Ms) (w : World) (r : Ending) (w' : World) : Prop := ∃ u, r = .returned (.tuple #[u, .int .i64 (chkM v n m)]) ∧ w'.ownsRow w.heap.size 5 1 u (if chkM v n m = 0 then msB v m else []).length ((if chkM v n m = 0 then msB v m else []).map (Value.int .u8)) ∧ Below w.heap.size w w'
end Go.Proofs.YtdokagebfeejbaaGreatDoor
/- What Encode wrote is read back, whatever stands behind it; cut short it ends too early: the mathematics. -/
namespace Go.Proofs.YtdokagebfeejbaaGreatDoor
open Go.RowKit Go.Wire1

/-- A reading of bytes that were written. -/
structure Rds {α : Type} (R : List Int → Int → α × List Int × Int) (B : List Int) (a : α) : Prop where
  full : ∀ r, R (B ++ r) 0 = (a, r, 0)
  cut : ∀ k, k < B.length → (R (B.take k) 0).2.2 = 11
def Stk {α : Type} (R : List Int → Int → α × List Int × Int) : Prop := ∀ l f, f ≠ 0 → (R l f).2.2 = f
end Go.Proofs.YtdokagebfeejbaaGreatDoor
/- A valid message's bytes are read back as the message: the mathematics. -/
namespace Go.Proofs.YtdokagebfeejbaaGreatDoor
open Go.RowKit Go.Wire1

def endM (m : Ms) (e : Int) (l : List Int) (f : Int) : Ms × List Int × Int := (m, l, refF e f)
def stopM (m : Ms) (l : List Int) (f : Int) : Ms × List Int × Int := (m, l, f)
def lMs (v n : Int) (may : Bool) (mk : Cm → Int → List Int → Ms) (l : List Int) (f : Int) : Ms × List Int × Int := stopM (mk (iLoad v n may l f).1.1 (iLoad v n may l f).1.2.1 (iLoad v n may l f).1.2.2) (iLoad v n may l f).2.1 (iLoad v n may l f).2.2
def aMs (v n : Int) (mk : Int → List Int → Ms) (l : List Int) (f : Int) : Ms × List Int × Int := stopM (mk (iAttr v n false l f).1.1 (iAttr v n false l f).1.2) (iAttr v n false l f).2.1 (iAttr v n false l f).2.2
def bMs (v n : Int) (kd : Nat) (row : Int) (K : Int → Int → List Int → Int → Ms × List Int × Int) (l : List Int) (f : Int) : Ms × List Int × Int := K (iBalF v n kd row l f).1.1 (iBalF v n kd row l f).1.2 (iBalF v n kd row l f).2.1 (iBalF v n kd row l f).2.2
def pMs (v : Int) (K : Int → Int → List Int → Int → Ms × List Int × Int) (l : List Int) (f : Int) : Ms × List Int × Int := K (iBal v l f).1.1 (iBal v l f).1.2 (iBal v l f).2.1 (iBal v l f).2.2
def vMs (v : Int) (K : Int → Bool → List Int → Int → Ms × List Int × Int) (l : List Int) (f : Int) : Ms × List Int × Int := K (iVote v l f).1.1 (iVote v l f).1.2 (iVote v l f).2.1 (iVote v l f).2.2
def gMs (e : Int) (K : List Int → Int → Ms × List Int × Int) (l : List Int) (f : Int) : Ms × List Int × Int := K l (refF e f)
/-- What a scan reads of a message behind its head. -/
def rTail (v n k row num : Int) (l : List Int) (f : Int) : Ms × List Int × Int :=
  if k = 1 then bMs v n 1 row (fun x y => lMs v n false fun c sq dl => ⟨1, row, num, x, y, 0, 0, 0, false, c, sq, dl⟩) l f
  else if k = 3 then bMs v n 3 row (fun x y => lMs v n true fun c sq dl => ⟨3, row, num, x, y, 0, 0, 0, false, c, sq, dl⟩) l f
  else if k = 2 then bMs v n 2 row (fun x y => aMs v n fun sq dl => ⟨2, row, num, x, y, 0, 0, 0, false, zeroC, sq, dl⟩) l f
  else if k = 4 then bMs v n 4 row (fun x y => stopM ⟨4, row, num, x, y, 0, 0, 0, false, zeroC, 0, []⟩) l f
  else if k = 6 then bMs v n 6 row (fun x y => stopM ⟨6, row, num, x, y, 0, 0, 0, false, zeroC, 0, []⟩) l f
  else if k = 5 then lMs v n true (fun c sq dl => ⟨5, row, num, 0, 0, 0, 0, 0, false, c, sq, dl⟩) l f
  else if k = 7 then bMs v n 7 row (fun x y => vMs v fun st sm l f => if st = 0 then stopM ⟨7, row, num, x, y, 0, 0, 0, false, zeroC, 0, []⟩ l f else pMs v (fun p q => gMs (unl (voteB n row x y st sm p q) 54) (lMs v n (st != 1) fun c sq dl => ⟨7, row, num, x, y, p, q, st, sm, c, sq, dl⟩)) l f) l f
  else if k = 8 then bMs v n 8 row (fun x y => pMs v fun p q => endM ⟨8, row, num, x, y, p, q, 0, false, zeroC, 0, []⟩ (unl (nackB n row x y p q) 54)) l f
  else stopM ⟨k, row, num, 0, 0, 0, 0, 0, false, zeroC, 0, []⟩ l f
end Go.Proofs.YtdokagebfeejbaaGreatDoor
/- The contract of SameInts: two lists of ints in memory, alike or not; it only reads. -/
namespace Go.Proofs.YtdokagebfeejbaaGreatDoor
open Go.RowKit Go.Wire1

set_option maxHeartbeats 400000 in
set_option maxRecDepth 100000 in
theorem sameI_any (a b : Option Addr) (n m cap cap' : Nat) (xs ys : List Int) (w : World) (ha : SegI w a n xs) (hb : SegI w b m ys) :
    Calls Tryz.prog 10 #[.slice a n cap, .slice b m cap'] w fun e w' => e = .returned (.bool (sameB xs ys)) ∧ ∃ q, w' = w.drewN q := by
  obtain ⟨hn, hn', ha, -⟩ := ha
  obtain ⟨hm, hm', hb, -⟩ := hb
  unfold maxLen at hn' hm'
  by_cases hnm : n = m
  · subst hnm
    have HN : Hid (xs.length = n) := hn
    have HM : Hid (ys.length = n) := hm
    clear hn hm
    go_enter Tryz.func10, Tryz.ntmps10
    go_wp2
    go_loopw [5] (fun i wr => ∃ k q : Nat, i = .int .i64 (k : Int) ∧ k ≤ n ∧ Hid (xs.take k = ys.take k) ∧ wr = w.drewN q) (fun i _ => n - (intOf i).toNat)
    case atStart => exact ⟨0, 0, rfl, Nat.zero_le _, rfl, rfl⟩
    case round =>
      obtain ⟨k, q, rfl, hk, HT, rfl⟩ := hrel
      by_cases hlt : k < n
      · obtain ⟨ba, oa, rfl, hca⟩ := ha (by omega)
        obtain ⟨bb, ob, rfl, hcb⟩ := hb (by omega)
        have ca : w.cell? ⟨ba, oa + k, none⟩ = some (.int .i64 (xs.getD k 0)) := hca k hlt
        have cb : w.cell? ⟨bb, ob + k, none⟩ = some (.int .i64 (ys.getD k 0)) := hcb k hlt
        clear ha hb hca hcb
        by_cases he : xs.getD k 0 = ys.getD k 0
        · have HT' : Hid (xs.take (k + 1) = ys.take (k + 1)) := take_step (by have := HN.out; omega) (by have := HM.out; omega) HT.out he
          rw [← he] at cb
          clear he
          generalize xs.getD k 0 = c at ca cb
          go_wp2
          go_quiet (fail)
          go_wp2
          go_roundw
          case rel => exact ⟨k + 1, _, by go_num, by omega, HT', rfl⟩
          case measure => simp [intOf]; omega
        · have HS : Hid (sameB xs ys = false) := same_no he
          have hb' : (xs.getD k 0 != ys.getD k 0) = true := by simpa using he
          clear he
          generalize xs.getD k 0 = c at ca hb'
          generalize ys.getD k 0 = d at cb hb'
          go_wp2
          go_quiet (fail)
          go_wp2
          go_ret
          exact ⟨by rw [HS.out]; rfl, _, by rw [World.drewN_drewN]⟩
      · have HS : Hid (sameB xs ys = true) := same_yes (by have := HT.out; rwa [List.take_of_length_le (by have := HN.out; omega), List.take_of_length_le (by have := HM.out; omega)] at this)
        go_wp2
        go_ret
        exact ⟨by rw [HS.out]; rfl, _, rfl⟩
  · have HS : Hid (sameB xs ys = false) := same_len (by omega)
    have hne : ((n : Int) != (m : Int)) = true := by rw [bne_iff_ne]; omega
    go_enter Tryz.func10, Tryz.ntmps10
    go_wp2
    go_ret
    exact ⟨by rw [HS.out]; rfl, 0, rfl⟩
end Go.Proofs.YtdokagebfeejbaaGreatDoor
/- The contract of mootref.SameMsg at two messages that are alike. -/
namespace Go.Proofs.YtdokagebfeejbaaGreatDoor
open Go.RowKit Go.Wire1

theorem msameC_self (c : Cm) : sameC c c = true := by simp [sameC, teq]
theorem sameB_self (l : List Int) : sameB l l = true := by
  unfold sameB
  simp
set_option maxHeartbeats 1000000 in
set_option maxRecDepth 100000 in
theorem sameInst_same (x y : Int) (w : World) : Calls Tryz.prog 42 #[.agg #[.int .i64 x, .int .i64 y], .agg #[.int .i64 x, .int .i64 y]] w fun e w' => e = .returned (.bool true) ∧ Below w.heap.size w w' := by
  have BB : ∀ o p, Hid (Below w.heap.size w ((w.alloc o).alloc p)) := fun o p => ((Below.refl _ w).alloc (Nat.le_refl _) _).alloc (by simp) _
  go_enter Tryz.func42, Tryz.ntmps42
  go_wp2
  go_ret
  exact ⟨rfl, (BB _ _).out⟩
set_option maxHeartbeats 1000000 in
set_option maxRecDepth 100000 in
theorem sameBallot_same (x y : Int) (w : World) : Calls Tryz.prog 43 #[.agg #[.int .i64 x, .int .i64 y], .agg #[.int .i64 x, .int .i64 y]] w fun e w' => e = .returned (.bool true) ∧ Below w.heap.size w w' := by
  have BB : ∀ o p, Hid (Below w.heap.size w ((w.alloc o).alloc p)) := fun o p => ((Below.refl _ w).alloc (Nat.le_refl _) _).alloc (by simp) _
  go_enter Tryz.func43, Tryz.ntmps43
  go_wp2
  go_ret
  exact ⟨rfl, (BB _ _).out⟩
set_option maxHeartbeats 2000000 in
set_option maxRecDepth 100000 in
theorem sameMsg_same (m : Ms) (ua va : Option Addr) (uk uc vk vc : Nat) (w : World) (h1 : SegI w ua uk m.dl) (h2 : SegI w va vk m.dl) :
    Calls Tryz.prog 18 #[.agg (mgc m (.slice ua uk uc)).toArray, .agg (mgc m (.slice va vk vc)).toArray] w fun e w' => e = .returned (.bool true) ∧ Below w.heap.size w w' := by
  obtain ⟨V, hV⟩ : ∃ V, V = (w.alloc (.cells (mgc m (.slice ua uk uc)).toArray 30)).alloc (.cells (mgc m (.slice va vk vc)).toArray 30) := ⟨_, rfl⟩
  have BV : Hid (Below w.heap.size w V) := by rw [hV]; exact ((Below.refl _ w).alloc (Nat.le_refl _) _).alloc (by simp) _
  have QV : Hid (Blk V w.heap.size (mgc m (.slice ua uk uc)) ∧ Blk V (w.heap.size + 1) (mgc m (.slice va vk vc))) := by
    rw [hV]
    refine ⟨(blk_new w 30 (mgc m (.slice ua uk uc))).on ((Below.refl _ _).alloc (Nat.le_refl _) _), ?_⟩
    have := blk_new (w.alloc (.cells (mgc m (.slice ua uk uc)).toArray 30)) 30 (mgc m (.slice va vk vc))
    rwa [show (w.alloc (.cells (mgc m (.slice ua uk uc)).toArray 30)).heap.size = w.heap.size + 1 by simp] at this
  have H1 := hide h1
  have H2 := hide h2
  clear h1 h2
  have Vp0 : V.cell? ⟨w.heap.size, 0, none⟩ = some (.int .i64 m.kind) := QV.out.1.cell 0 _ rfl
  have Vq0 : V.cell? ⟨w.heap.size + 1, 0, none⟩ = some (.int .i64 m.kind) := QV.out.2.cell 0 _ rfl
  have Vp7 : V.cell? ⟨w.heap.size, 7, none⟩ = some (.int .i64 m.st) := QV.out.1.cell 7 _ rfl
  have Vq7 : V.cell? ⟨w.heap.size + 1, 7, none⟩ = some (.int .i64 m.st) := QV.out.2.cell 7 _ rfl
  have Vp8 : V.cell? ⟨w.heap.size, 8, none⟩ = some (.bool m.sm) := QV.out.1.cell 8 _ rfl
  have Vq8 : V.cell? ⟨w.heap.size + 1, 8, none⟩ = some (.bool m.sm) := QV.out.2.cell 8 _ rfl
  have Vp17 : V.cell? ⟨w.heap.size, 17, none⟩ = some (.int .i64 m.sq) := QV.out.1.cell 17 _ rfl
  have Vq17 : V.cell? ⟨w.heap.size + 1, 17, none⟩ = some (.int .i64 m.sq) := QV.out.2.cell 17 _ rfl
  have Vp1 : V.cell? ⟨w.heap.size, 1, none⟩ = some (.int .i64 m.row) := QV.out.1.cell 1 _ rfl
  have Vq1 : V.cell? ⟨w.heap.size + 1, 1, none⟩ = some (.int .i64 m.row) := QV.out.2.cell 1 _ rfl
  have Vp2 : V.cell? ⟨w.heap.size, 2, none⟩ = some (.int .i64 m.num) := QV.out.1.cell 2 _ rfl
  have Vq2 : V.cell? ⟨w.heap.size + 1, 2, none⟩ = some (.int .i64 m.num) := QV.out.2.cell 2 _ rfl
  go_enter Tryz.func18, Tryz.ntmps18
  go_upto_region 1 with fail
  rw [← hV]
  clear hV
  go_wp2_with fail
  refine (sameInst_same m.row m.num _).mono ?_
  rintro e W ⟨rfl, h⟩
  have BW : Hid (Below w.heap.size w W) := BV.out.trans (h.mono BV.out.size)
  have QW : Hid (Blk W w.heap.size (mgc m (.slice ua uk uc)) ∧ Blk W (w.heap.size + 1) (mgc m (.slice va vk vc))) := ⟨QV.out.1.on h, QV.out.2.on h⟩
  clear h
  have Wp3 : W.cell? ⟨w.heap.size, 3, none⟩ = some (.int .i64 m.x) := QW.out.1.cell 3 _ rfl
  have Wq3 : W.cell? ⟨w.heap.size + 1, 3, none⟩ = some (.int .i64 m.x) := QW.out.2.cell 3 _ rfl
  have Wp4 : W.cell? ⟨w.heap.size, 4, none⟩ = some (.int .i64 m.y) := QW.out.1.cell 4 _ rfl
  have Wq4 : W.cell? ⟨w.heap.size + 1, 4, none⟩ = some (.int .i64 m.y) := QW.out.2.cell 4 _ rfl
  go_wp2_with fail
  refine (sameBallot_same m.x m.y _).mono ?_
  rintro e X ⟨rfl, h⟩
  have BX : Hid (Below w.heap.size w X) := BW.out.trans (h.mono BW.out.size)
  have QX : Hid (Blk X w.heap.size (mgc m (.slice ua uk uc)) ∧ Blk X (w.heap.size + 1) (mgc m (.slice va vk vc))) := ⟨QW.out.1.on h, QW.out.2.on h⟩
  clear h
  have Xp5 : X.cell? ⟨w.heap.size, 5, none⟩ = some (.int .i64 m.p) := QX.out.1.cell 5 _ rfl
  have Xq5 : X.cell? ⟨w.heap.size + 1, 5, none⟩ = some (.int .i64 m.p) := QX.out.2.cell 5 _ rfl
  have Xp6 : X.cell? ⟨w.heap.size, 6, none⟩ = some (.int .i64 m.q) := QX.out.1.cell 6 _ rfl
  have Xq6 : X.cell? ⟨w.heap.size + 1, 6, none⟩ = some (.int .i64 m.q) := QX.out.2.cell 6 _ rfl
  go_wp2_with fail
  refine (sameBallot_same m.p m.q _).mono ?_
  rintro e X2 ⟨rfl, h⟩
  have BX2 : Hid (Below w.heap.size w X2) := BX.out.trans (h.mono BX.out.size)
  have QX2 : Hid (Blk X2 w.heap.size (mgc m (.slice ua uk uc)) ∧ Blk X2 (w.heap.size + 1) (mgc m (.slice va vk vc))) := ⟨QX.out.1.on h, QX.out.2.on h⟩
  clear h
  have X2p9 : X2.cell? ⟨w.heap.size, 9, none⟩ = some (.int .i64 m.c.kind) := QX2.out.1.cell 9 _ rfl
  have X2q9 : X2.cell? ⟨w.heap.size + 1, 9, none⟩ = some (.int .i64 m.c.kind) := QX2.out.2.cell 9 _ rfl
  have X2p10 : X2.cell? ⟨w.heap.size, 10, none⟩ = some (.int .i64 m.c.client) := QX2.out.1.cell 10 _ rfl
  have X2q10 : X2.cell? ⟨w.heap.size + 1, 10, none⟩ = some (.int .i64 m.c.client) := QX2.out.2.cell 10 _ rfl
  have X2p11 : X2.cell? ⟨w.heap.size, 11, none⟩ = some (.int .i64 m.c.req) := QX2.out.1.cell 11 _ rfl
  have X2q11 : X2.cell? ⟨w.heap.size + 1, 11, none⟩ = some (.int .i64 m.c.req) := QX2.out.2.cell 11 _ rfl
  have X2p12 : X2.cell? ⟨w.heap.size, 12, none⟩ = some (.string m.c.key) := QX2.out.1.cell 12 _ rfl
  have X2q12 : X2.cell? ⟨w.heap.size + 1, 12, none⟩ = some (.string m.c.key) := QX2.out.2.cell 12 _ rfl
  have X2p13 : X2.cell? ⟨w.heap.size, 13, none⟩ = some (.string m.c.key2) := QX2.out.1.cell 13 _ rfl
  have X2q13 : X2.cell? ⟨w.heap.size + 1, 13, none⟩ = some (.string m.c.key2) := QX2.out.2.cell 13 _ rfl
  have X2p14 : X2.cell? ⟨w.heap.size, 14, none⟩ = some (.string m.c.val) := QX2.out.1.cell 14 _ rfl
  have X2q14 : X2.cell? ⟨w.heap.size + 1, 14, none⟩ = some (.string m.c.val) := QX2.out.2.cell 14 _ rfl
  have X2p15 : X2.cell? ⟨w.heap.size, 15, none⟩ = some (.string m.c.old) := QX2.out.1.cell 15 _ rfl
  have X2q15 : X2.cell? ⟨w.heap.size + 1, 15, none⟩ = some (.string m.c.old) := QX2.out.2.cell 15 _ rfl
  have X2p16 : X2.cell? ⟨w.heap.size, 16, none⟩ = some (.int .i64 m.c.n) := QX2.out.1.cell 16 _ rfl
  have X2q16 : X2.cell? ⟨w.heap.size + 1, 16, none⟩ = some (.int .i64 m.c.n) := QX2.out.2.cell 16 _ rfl
  go_wp2_with fail
  refine (sameCmd_any m.c m.c _).mono ?_
  rintro e Y ⟨rfl, h⟩
  rw [msameC_self]
  have BY : Hid (Below w.heap.size w Y) := BX2.out.trans (h.mono BX2.out.size)
  have QY : Hid (Blk Y w.heap.size (mgc m (.slice ua uk uc)) ∧ Blk Y (w.heap.size + 1) (mgc m (.slice va vk vc))) := ⟨QX2.out.1.on h, QX2.out.2.on h⟩
  clear h

  have Yp18 : Y.cell? ⟨w.heap.size, 18, none⟩ = some (.slice ua uk uc) := QY.out.1.cell 18 _ rfl
  have Yq18 : Y.cell? ⟨w.heap.size + 1, 18, none⟩ = some (.slice va vk vc) := QY.out.2.cell 18 _ rfl
  go_wp2_with fail
  refine (sameI_any _ _ _ _ _ _ _ _ _ (H1.out.below BY.out (Nat.le_refl _)) (H2.out.below BY.out (Nat.le_refl _))).mono ?_
  rintro e Z ⟨rfl, q, rfl⟩
  rw [sameB_self]
  go_wp2
  go_ret
  exact ⟨rfl, ⟨BY.out.1, BY.out.2, BY.out.3, BY.out.4, BY.out.5⟩⟩
end Go.Proofs.YtdokagebfeejbaaGreatDoor
/- The contract of SameBytes: two lists of bytes in memory, alike or not; it only reads. -/
namespace Go.Proofs.YtdokagebfeejbaaGreatDoor
open Go.RowKit Go.Wire1

set_option maxHeartbeats 400000 in
set_option maxRecDepth 100000 in
theorem same_any (a b : Option Addr) (n m cap cap' : Nat) (xs ys : List Int) (w : World) (ha : Seg w a n xs) (hb : Seg w b m ys) :
    Calls Tryz.prog 16 #[.slice a n cap, .slice b m cap'] w fun e w' => e = .returned (.bool (sameB xs ys)) ∧ ∃ q, w' = w.drewN q := by
  obtain ⟨hn, hn', ha⟩ := ha
  obtain ⟨hm, hm', hb⟩ := hb
  unfold maxLen at hn' hm'
  by_cases hnm : n = m
  · subst hnm
    have HN : Hid (xs.length = n) := hn
    have HM : Hid (ys.length = n) := hm
    clear hn hm
    go_enter Tryz.func16, Tryz.ntmps16
    go_wp2
    go_loopw [5] (fun i wr => ∃ k q : Nat, i = .int .i64 (k : Int) ∧ k ≤ n ∧ Hid (xs.take k = ys.take k) ∧ wr = w.drewN q) (fun i _ => n - (intOf i).toNat)
    case atStart => exact ⟨0, 0, rfl, Nat.zero_le _, rfl, rfl⟩
    case round =>
      obtain ⟨k, q, rfl, hk, HT, rfl⟩ := hrel
      by_cases hlt : k < n
      · obtain ⟨ba, oa, rfl, hca⟩ := ha (by omega)
        obtain ⟨bb, ob, rfl, hcb⟩ := hb (by omega)
        have ca : w.cell? ⟨ba, oa + k, none⟩ = some (.int .u8 (xs.getD k 0)) := hca k hlt
        have cb : w.cell? ⟨bb, ob + k, none⟩ = some (.int .u8 (ys.getD k 0)) := hcb k hlt
        clear ha hb hca hcb
        by_cases he : xs.getD k 0 = ys.getD k 0
        · have HT' : Hid (xs.take (k + 1) = ys.take (k + 1)) := take_step (by have := HN.out; omega) (by have := HM.out; omega) HT.out he
          rw [← he] at cb
          clear he
          generalize xs.getD k 0 = c at ca cb
          go_wp2
          go_quiet (fail)
          go_wp2
          go_roundw
          case rel => exact ⟨k + 1, _, by go_num, by omega, HT', rfl⟩
          case measure => simp [intOf]; omega
        · have HS : Hid (sameB xs ys = false) := same_no he
          have hb' : (xs.getD k 0 != ys.getD k 0) = true := by simpa using he
          clear he
          generalize xs.getD k 0 = c at ca hb'
          generalize ys.getD k 0 = d at cb hb'
          go_wp2
          go_quiet (fail)
          go_wp2
          go_ret
          exact ⟨by rw [HS.out]; rfl, _, by rw [World.drewN_drewN]⟩
      · have HS : Hid (sameB xs ys = true) := same_yes (by have := HT.out; rwa [List.take_of_length_le (by have := HN.out; omega), List.take_of_length_le (by have := HM.out; omega)] at this)
        go_wp2
        go_ret
        exact ⟨by rw [HS.out]; rfl, _, rfl⟩
  · have HS : Hid (sameB xs ys = false) := same_len (by omega)
    have hne : ((n : Int) != (m : Int)) = true := by rw [bne_iff_ne]; omega
    go_enter Tryz.func16, Tryz.ntmps16
    go_wp2
    go_ret
    exact ⟨by rw [HS.out]; rfl, 0, rfl⟩
end Go.Proofs.YtdokagebfeejbaaGreatDoor
