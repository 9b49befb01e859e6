/- Texts of the proof, joined. -/
import Derived.Test.YtlhididcanedhaaGreatDoorJ30
import Derived.Test.YtlhididcanedhaaGreatDoorJ02
import Derived.Test.YtlhididcanedhaaGreatDoorRows
import Derived.Test.YtlhididcanedhaaGreatDoorJ03
import Derived.WalkKit
import Derived.WalkLawsBesides
import Derived.Deep.RegionHeld3
import Derived.Laws.AppendOwn
import Derived.Below
import Derived.Test.YtlhididcanedhaaGreatDoorJ12
/- The document's own scan: its text. -/
namespace Go.Proofs.YtlhididcanedhaaGreatDoor
open Go.RowKit Go.Wire1

/-- What the document's scan reads as a text from k on. -/
def rcT (least top : Nat) (own : Int) (l : List Int) (k : Nat) (f : Int) : ByteArray × Nat × Int :=
  if (rcU top own l k f).2.2 = 0 then
    (if (rcU top own l k f).1 < least then (⟨#[]⟩, (rcU top own l k f).2.1, own)
     else if l.length < (rcU top own l k f).2.1 + (rcU top own l k f).1 then (⟨#[]⟩, (rcU top own l k f).2.1, 11)
     else (strOfNums ((l.drop (rcU top own l k f).2.1).take (rcU top own l k f).1), (rcU top own l k f).2.1 + (rcU top own l k f).1, 0))
  else (⟨#[]⟩, (rcU top own l k f).2.1, (rcU top own l k f).2.2)

set_option maxHeartbeats 2000000 in
set_option maxRecDepth 100000 in
theorem rcText_any (least top : Nat) (own : Int) (b n cap k : Nat) (f : Int) (sa : Option Addr) (l : List Int) (a : Nat → Addr) (w : World) (ho : own ≠ 0) (_h1 : least ≤ 1) (ht : top ≤ 65536) (h : Rdr w b sa n cap k f l a) :
    Calls Tryz.prog 158 #[.pointer (some ⟨b, 0, none⟩), .int .i64 (least : Int), .int .i64 (top : Int), .int .i64 own] w fun e w' => e = .returned (.string (rcT least top own l k f).1) ∧ Touch b w w' ∧ Rdr w' b sa n cap (rcT least top own l k f).2.1 (rcT least top own l k f).2.2 l a := by
  obtain ⟨x, hx⟩ : ∃ x, Hid ((rcU top own l k f).1 = x) := ⟨_, rfl⟩
  obtain ⟨k1, hk1⟩ : ∃ k1, Hid ((rcU top own l k f).2.1 = k1) := ⟨_, rfl⟩
  obtain ⟨f1, hf1⟩ : ∃ f1, Hid ((rcU top own l k f).2.2 = f1) := ⟨_, rfl⟩
  have hxt : x ≤ 65536 := by rw [← hx.out]; exact Nat.le_trans (rcU_le _ _ _ _ _) ht
  have EQ : Hid (rcT least top own l k f = if f1 = 0 then (if x < least then (⟨#[]⟩, k1, own) else if l.length < k1 + x then (⟨#[]⟩, k1, 11) else (strOfNums ((l.drop k1).take x), k1 + x, 0)) else (⟨#[]⟩, k1, f1)) := by
    unfold rcT; rw [hx.out, hk1.out, hf1.out]; rfl
  have ho1 : (own == 0) = false := beq_eq_false_iff_ne.2 ho
  have ho2 : (own != 0) = true := by rw [bne_iff_ne]; exact ho
  have HS := hide h
  have HO := hide ho
  have ht0 : decide ((top : Int) < 0) = false := decide_eq_false (by omega)
  clear h ho
  go_enter Tryz.func158, Tryz.ntmps158
  go_wp2_with fail
  refine (rcUint_any top own b n cap k f sa l a _ HO.out (by omega) HS.out).mono ?_
  rintro e w1 ⟨rfl, T1, R1⟩
  rw [hx.out]
  rw [hk1.out, hf1.out] at R1
  have c0 : w1.cell? ⟨b, 0, none⟩ = some (.slice sa n cap) := R1.ready.cur.1
  have c1 : w1.cell? ⟨b, 1, none⟩ = some (.int .i64 (k1 : Int)) := R1.ready.cur.2.1
  have g1 : w1.frozen? ⟨b, 1, none⟩ = false := R1.ready.cur.2.2
  have c2 := R1.fault
  have g2 := R1.thaw
  have hcm := R1.capMax
  have hcl := R1.capLe
  have hkn := R1.ready.le
  have hl := hide R1.ready.seg.1
  unfold maxLen at hcm
  have HR := hide R1
  have HT := hide T1
  clear T1 R1 hx hk1 hf1
  by_cases hf : f1 = 0
  · subst hf
    by_cases hlt : x < least
    · have HQ : Hid (rcT least top own l k f = (⟨#[]⟩, k1, own)) := by rw [EQ.out, if_pos rfl, if_pos hlt]; rfl
      clear EQ
      go_wp2
      go_quiet (fail)
      go_wp2
      go_ret
      rw [HQ.out]
      have D := rc_break HR.out 0 own
      exact ⟨rfl, HT.out.trans (D.1.drewN _), D.2.drewN _⟩
    · have dl : decide ((x : Int) < (least : Int)) = false := decide_eq_false (by omega)
      by_cases hfit : n < k1 + x
      · have HQ : Hid (rcT least top own l k f = (⟨#[]⟩, k1, 11)) := by rw [EQ.out, if_pos rfl, if_neg hlt, if_pos (by rw [hl.out]; exact hfit)]; rfl
        clear EQ
        go_wp2
        go_quiet (fail)
        go_wp2
        go_ret
        rw [HQ.out]
        exact ⟨rfl, HT.out.trans (rc_break HR.out _ 11).1, (rc_break HR.out _ 11).2⟩
      · have HQ : Hid (rcT least top own l k f = (strOfNums ((l.drop k1).take x), k1 + x, 0)) := by rw [EQ.out, if_pos rfl, if_neg hlt, if_neg (by rw [hl.out]; exact hfit)]; rfl
        clear EQ
        by_cases hx0 : x = 0
        · subst hx0
          have hcz : ∀ (ad : Option Addr) (c : Nat) (w : World), (convert 31 9 (.slice ad 0 c)).run Tryz.prog w = .ok (.string (strOfNums [])) w := conv_zero
          by_cases hcc : cap = k1
          · subst hcc
            go_wp2
            go_quiet (fail)
            go_wp2
            go_quiet (fail)
            go_wp2
            go_ret
            rw [HQ.out]
            try rw [World.drewN_drewN]
            exact ⟨by simp, HT.out.trans (rc_moved (m := 0) HR.out _ _ (by simp) (by omega)).1, (rc_moved (m := 0) HR.out _ _ (by simp) (by omega)).2⟩
          · have hcp : 0 < (cap : Int) - (k1 : Int) := by omega
            go_wp2
            go_quiet (fail)
            go_wp2
            go_quiet (fail)
            go_wp2
            go_ret
            rw [HQ.out]
            try rw [World.drewN_drewN]
            exact ⟨by simp, HT.out.trans (rc_moved (m := 0) HR.out _ _ (by simp) (by omega)).1, (rc_moved (m := 0) HR.out _ _ (by simp) (by omega)).2⟩
        · obtain ⟨sb, so, rfl, _⟩ := HR.out.ready.seg.2.2 (by omega)
          have hcv : ∀ q, (convert 31 9 (.slice (some ⟨sb, so + k1, none⟩) x (cap - k1))).run Tryz.prog (w1.drewN q) = .ok (.string (strOfNums ((l.drop k1).take x))) (w1.drewN q) := fun q => by
            have sm := (HR.out.ready.seg.drewN q).mid (k := k1) (m := x) (by omega)
            obtain ⟨b', o', e', hc'⟩ := sm.2.2 (by omega)
            cases e'
            exact run_convert_bytes_arg (P := Tryz.prog) _ 31 5 Tryz.underlying31 Tryz.underlying5 sb (so + k1) x (cap - k1) _ sm.1 hc' 9 Tryz.underlying9
          generalize strOfNums ((l.drop k1).take x) = S at *
          have hcc : 0 < (cap : Int) - (k1 : Int) := by omega
          go_wp2
          go_quiet (fail)
          go_wp2
          go_quiet (fail)
          go_wp2
          go_ret
          rw [HQ.out]
          try rw [World.drewN_drewN]
          exact ⟨rfl, HT.out.trans (rc_move (m := x) HR.out _ (by omega)).1, (rc_move (m := x) HR.out _ (by omega)).2⟩
  · have HQ : Hid (rcT least top own l k f = (⟨#[]⟩, k1, f1)) := by rw [EQ.out, if_neg hf]; rfl
    have hb : (f1 != 0) = true := by rw [bne_iff_ne]; exact hf
    have hb2 : (f1 == 0) = false := beq_eq_false_iff_ne.2 hf
    clear hf EQ
    go_wp2
    go_quiet (fail)
    go_wp2
    go_ret
    rw [HQ.out]
    exact ⟨rfl, HT.out.drewN _, HR.out.drewN _⟩
end Go.Proofs.YtlhididcanedhaaGreatDoor
/- The plain mathematics of the document's own Check; nothing of the program is named here. -/
namespace Go.Wire1
open Go.RowKit

/-- The bytes of a text, as numbers. -/
def tb (s : ByteArray) (i : Nat) : Int := ((s.data.toList.getD i 0).toNat : Int)
def hasC (s : ByteArray) (b : Int) : Bool := (List.range s.size).any fun i => tb s i == b
/-- The document's letters of a kind's fields. -/
def fldS (kind : Int) : ByteArray :=
  if kind = 1 ∨ kind = 3 then ⟨#[99, 114, 107]⟩ else if kind = 2 then ⟨#[99, 114, 107, 118]⟩ else if kind = 4 then ⟨#[99, 114, 107, 110]⟩
  else if kind = 5 then ⟨#[99, 114, 107, 111, 118]⟩ else if kind = 6 ∨ kind = 7 ∨ kind = 8 then ⟨#[99, 114, 107, 106]⟩ else ⟨#[]⟩
theorem fldS_size (kind : Int) : (fldS kind).size ≤ 5 := by
  unfold fldS; repeat' split
  all_goals decide
def letF : List Int := [99, 114, 107, 106, 118, 111, 110]
def knownR (v kind : Int) : Bool := if v = 1 then decide (0 ≤ kind) && decide (kind ≤ 5) else decide (0 ≤ kind) && decide (kind ≤ 8)
theorem known_eq {v kind : Int} (hv : v = 1 ∨ v = 2) : knownR v kind = isKd v kind := by
  unfold knownR isKd
  by_cases h0 : 0 ≤ kind
  · by_cases h9 : kind < 9
    · obtain ⟨k, rfl⟩ := Int.eq_ofNat_of_zero_le h0
      have h : ∀ k : Fin 9, ((decide ((k.val : Int) ≤ 5) = decide ((fromL.getD k.val 0 : Int) ≤ 1)) ∧ (decide ((k.val : Int) ≤ 8) = decide ((fromL.getD k.val 0 : Int) ≤ 2))) := by decide
      have := h ⟨k, by omega⟩
      simp only at this
      rcases hv with rfl | rfl
      · simp [h9, this.1]
      · simp [h9]
        have := this.2
        simp at this
        omega
    · rcases hv with rfl | rfl <;> simp [h9] <;> omega
  · simp [h0]
def numR (t : Bool) (x top : Int) (e : Nat) : Nat := if t then (if x < 0 ∨ top < x then e else 0) else (if x = 0 then 0 else 48)
def txtR (t : Bool) (s : ByteArray) (least top : Nat) (e : Nat) : Nat := if t then (if s.size < least ∨ top < s.size then e else 0) else (if s.toList.isEmpty then 0 else 48)
def key2R (c : Cm) : Nat := if txtR (hasF c.kind 3) c.key2 1 64 45 = 0 ∧ hasF c.kind 3 = true ∧ isPairB c.kind c.key c.key2 = false then 45 else txtR (hasF c.kind 3) c.key2 1 64 45
def nR (c : Cm) : Nat := if c.n = 0 then 0 else if hasF c.kind 6 then 0 else 48

/-- The first number that is not 0. -/
def first0 : List Nat → Nat
  | [] => 0
  | x :: r => if x = 0 then first0 r else x
end Go.Wire1
/- The contracts of the document's own known, fields, has, number, text, second, most, first. -/
namespace Go.Proofs.YtlhididcanedhaaGreatDoor
open Go.RowKit Go.Wire1

set_option maxHeartbeats 400000 in
set_option maxRecDepth 100000 in
theorem rknown_any (v kind : Int) (w : World) :
    Calls Tryz.prog 94 #[.int .i64 v, .int .i64 kind] w fun e w' => e = .returned (.bool (knownR v kind)) ∧ w = w' := by
  by_cases hv : v = 1
  · subst hv
    by_cases h0 : 0 ≤ kind
    · have HR : Hid (knownR 1 kind = decide (kind ≤ 5)) := by simp [Hid, knownR, h0]
      go_enter Tryz.func94, Tryz.ntmps94
      go_wp2
      go_ret
      exact ⟨by rw [HR.out]; rfl, rfl⟩
    · have HR : Hid (knownR 1 kind = false) := by simp [Hid, knownR, h0]
      go_enter Tryz.func94, Tryz.ntmps94
      go_wp2
      go_ret
      exact ⟨by rw [HR.out]; first | rfl | (simp; omega), rfl⟩
  · have g1 : (v == 1) = false := by simpa using hv
    by_cases h0 : 0 ≤ kind
    · have HR : Hid (knownR v kind = decide (kind ≤ 8)) := by simp [Hid, knownR, h0, hv]
      clear hv
      go_enter Tryz.func94, Tryz.ntmps94
      go_wp2
      go_ret
      exact ⟨by rw [HR.out]; rfl, rfl⟩
    · have HR : Hid (knownR v kind = false) := by simp [Hid, knownR, h0]
      clear hv
      go_enter Tryz.func94, Tryz.ntmps94
      go_wp2
      go_ret
      exact ⟨by rw [HR.out]; first | rfl | (simp; omega), rfl⟩

set_option maxHeartbeats 400000 in
set_option maxRecDepth 100000 in
theorem rmost_any (v : Int) (w : World) :
    Calls Tryz.prog 99 #[.int .i64 v] w fun e w' => e = .returned (.int .i64 (mostV v : Nat)) ∧ w = w' := by
  by_cases h1 : v = 1
  · subst h1
    go_enter Tryz.func99, Tryz.ntmps99
    go_wp2
    go_ret
    exact ⟨rfl, rfl⟩
  · have HR : Hid (mostV v = 65536) := by simp [Hid, mostV, h1]
    have g1 : (v == 1) = false := by simpa using h1
    go_enter Tryz.func99, Tryz.ntmps99
    go_wp2
    go_ret
    exact ⟨by rw [HR.out]; rfl, rfl⟩

set_option maxHeartbeats 400000 in
set_option maxRecDepth 100000 in
theorem rsecond_any (kind : Int) (k k2 : ByteArray) (w : World) :
    Calls Tryz.prog 98 #[.int .i64 kind, .string k, .string k2] w fun e w' => e = .returned (.bool (isPairB kind k k2)) ∧ w = w' := by
  by_cases h1 : kind = 8
  · subst h1
    have HR : Hid (isPairB 8 k k2 = Op.bytesLess k.toList k2.toList) := by simp [Hid, isPairB, tlt]
    go_enter Tryz.func98, Tryz.ntmps98
    go_wp2
    go_ret
    exact ⟨by rw [HR.out]; rfl, rfl⟩
  · have HR : Hid (isPairB kind k k2 = !(k.toList == k2.toList)) := by simp [Hid, isPairB, teq, h1]
    have g1 : (kind == 8) = false := by simpa using h1
    go_enter Tryz.func98, Tryz.ntmps98
    go_wp2
    go_ret
    exact ⟨by rw [HR.out]; rfl, rfl⟩

set_option maxHeartbeats 1000000 in
set_option maxRecDepth 100000 in
theorem rfields_any (kind : Int) (w : World) :
    Calls Tryz.prog 60 #[.int .i64 kind] w fun e w' => e = .returned (.string (fldS kind)) ∧ w = w' := by
  by_cases h : 1 ≤ kind ∧ kind ≤ 8
  · rcases (by omega : kind = 1 ∨ kind = 2 ∨ kind = 3 ∨ kind = 4 ∨ kind = 5 ∨ kind = 6 ∨ kind = 7 ∨ kind = 8) with rfl | rfl | rfl | rfl | rfl | rfl | rfl | rfl
    all_goals
      go_enter Tryz.func60, Tryz.ntmps60
      go_wp2
      go_ret
      exact ⟨rfl, rfl⟩
  · have HR : Hid (fldS kind = ⟨#[]⟩) := by unfold fldS; rw [if_neg (by omega), if_neg (by omega), if_neg (by omega), if_neg (by omega), if_neg (by omega)]; rfl
    have g : ∀ z : Int, 1 ≤ z → z ≤ 8 → (kind == z) = false := fun z h1 h2 => by rw [beq_eq_false_iff_ne]; omega
    have g1 := g 1 (by omega) (by omega)
    have g2 := g 2 (by omega) (by omega)
    have g3 := g 3 (by omega) (by omega)
    have g4 := g 4 (by omega) (by omega)
    have g5 := g 5 (by omega) (by omega)
    have g6 := g 6 (by omega) (by omega)
    have g7 := g 7 (by omega) (by omega)
    have g8 := g 8 (by omega) (by omega)
    clear h g
    go_enter Tryz.func60, Tryz.ntmps60
    go_wp2
    go_ret
    exact ⟨by rw [HR.out]; rfl, rfl⟩

theorem tb_index (s : ByteArray) (i : Nat) (hi : i < s.size) (V : World) : (Instr.index 9 (.string s) (.int .i64 (i : Int))).run Tryz.prog V = .ok (.int .u8 (tb s i)) V := by
  rw [run_index_string V 9 s .i64 (i : Int) Tryz.underlying9, dif_pos ⟨by omega, by omega⟩]
  unfold tb
  simp only [Int.toNat_natCast]
  rw [List.getD, List.getElem?_eq_getElem (by rw [← Lib.size_eq]; exact hi)]
  rfl

end Go.Proofs.YtlhididcanedhaaGreatDoor
/- A law of our own: where the row lies that append hands back: in the block that it had, or in a new one. -/
namespace Go
open Go.RowKit

end Go
/- The contracts of the document's own join and shared. -/
namespace Go.Proofs.YtlhididcanedhaaGreatDoor
open Go.RowKit Go.Wire1

theorem Seg.block {w w' : World} {g n : Nat} {l : List Int} (h : Seg w (some ⟨g, 0, none⟩) n l) (hb : w'.heap[g]? = w.heap[g]?) : Seg w' (some ⟨g, 0, none⟩) n l := by
  refine ⟨h.1, h.2.1, fun hn => ?_⟩
  obtain ⟨b, off, e, hc⟩ := h.2.2 hn
  obtain ⟨rfl, rfl⟩ : g = b ∧ 0 = off := by simpa using e
  exact ⟨g, 0, rfl, fun j hj => by rw [World.cell?_of_block (w := w) hb]; exact hc j hj⟩

set_option maxHeartbeats 1000000 in
set_option maxRecDepth 100000 in
theorem rshared_any (k k2 : ByteArray) (w : World) (h1 : k.size ≤ 140737488351232) (h2 : k2.size ≤ 140737488351232) :
    Calls Tryz.prog 104 #[.string k, .string k2] w fun e w' => e = .returned (.int .i64 (shared k k2 : Nat)) ∧ ∃ q, w' = w.drewN q := by
  go_enter Tryz.func104, Tryz.ntmps104
  go_wp2_with fail
  go_loopw [5] (fun x wr => ∃ i q : Nat, x = .int .i64 (i : Int) ∧ i ≤ k.size ∧ i ≤ k2.size ∧ Hid (shared k k2 = i + shL (k.data.toList.drop i) (k2.data.toList.drop i)) ∧ wr = w.drewN q) (fun x _ => k.size - (intOf x).toNat)
  case atStart => exact ⟨0, 0, rfl, by omega, by omega, by simp [Hid, shared], rfl⟩
  case round =>
    obtain ⟨i, q, rfl, hi, hi2, HF, rfl⟩ := hrel
    have lk : Hid (k.data.toList.length = k.size) := (Lib.size_eq k).symm
    have lk2 : Hid (k2.data.toList.length = k2.size) := (Lib.size_eq k2).symm
    by_cases g1 : i < k.size
    · by_cases g2 : i < k2.size
      · have a1 := tb_at k i g1
        have a2 := tb_at k2 i g2
        have HD := hide (shL_drop i k.data.toList k2.data.toList (by rw [lk.out]; exact g1) (by rw [lk2.out]; exact g2))
        have d1 : decide ((i : Int) < (k.size : Int)) = true := decide_eq_true (by omega)
        have d2 : decide ((i : Int) < (k2.size : Int)) = true := decide_eq_true (by omega)
        generalize k.data.toList.getD i 0 = x at *
        generalize k2.data.toList.getD i 0 = y at *
        by_cases hxy : x = y
        · subst hxy
          have HN : Hid (shared k k2 = (i + 1) + shL (k.data.toList.drop (i + 1)) (k2.data.toList.drop (i + 1))) := by
            have e1 := HF.out
            rw [HD.out, if_pos rfl] at e1
            rw [e1]; exact hide (by omega)
          have hb : (((x.toNat : Nat) : Int) == ((x.toNat : Nat) : Int)) = true := by simp
          go_wp2
          go_quiet (fail)
          go_wp2
          go_roundw
          case rel => exact ⟨i + 1, _, by go_num, by omega, by omega, HN, rfl⟩
          case measure => simp [intOf]; omega
        · have HN : Hid (shared k k2 = i) := by
            have e1 := HF.out
            rw [HD.out, if_neg hxy] at e1
            exact e1
          have hb : (((x.toNat : Nat) : Int) == ((y.toNat : Nat) : Int)) = false := by
            rw [beq_eq_false_iff_ne]
            intro e
            exact hxy (UInt8.toNat_inj.1 (by omega))
          go_wp2
          go_quiet (fail)
          go_wp2
          go_ret
          exact ⟨by rw [HN.out]; rfl, _, by rw [World.drewN_drewN]⟩
      · have HN : Hid (shared k k2 = i) := by
          have e1 := HF.out
          rw [shL_end i _ _ (.inr (by rw [lk2.out]; omega))] at e1
          exact e1
        have d1 : decide ((i : Int) < (k.size : Int)) = true := decide_eq_true (by omega)
        have d2 : decide ((i : Int) < (k2.size : Int)) = false := decide_eq_false (by omega)
        go_wp2
        go_quiet (fail)
        go_wp2
        go_ret
        exact ⟨by rw [HN.out]; rfl, _, by rw [World.drewN_drewN]⟩
    · have HN : Hid (shared k k2 = i) := by
        have e1 := HF.out
        rw [shL_end i _ _ (.inl (by rw [lk.out]; omega))] at e1
        exact e1
      have d1 : decide ((i : Int) < (k.size : Int)) = false := decide_eq_false (by omega)
      go_wp2
      go_quiet (fail)
      go_wp2
      go_ret
      exact ⟨by rw [HN.out]; rfl, _, by rw [World.drewN_drewN]⟩
end Go.Proofs.YtlhididcanedhaaGreatDoor
/- The document's own scan: its second key. -/
namespace Go.Proofs.YtlhididcanedhaaGreatDoor
open Go.RowKit Go.Wire1

theorem rcT_size (least top : Nat) (own : Int) (l : List Int) (k : Nat) (f : Int) : (rcT least top own l k f).1.size ≤ top := by
  have h := rcU_le top own l k f
  have e0 : (⟨#[]⟩ : ByteArray).size = 0 := rfl
  unfold rcT
  split
  · split
    · rw [e0]; omega
    · split
      · rw [e0]; omega
      · show (strOfNums _).size ≤ top
        rw [strOfNums_size, List.length_take]; omega
  · rw [e0]; omega

def rkA (key : ByteArray) (l : List Int) (k : Nat) (f : Int) : Nat × Nat × Int := rcU key.size 45 l k f
def rkT (key : ByteArray) (l : List Int) (k : Nat) (f : Int) : ByteArray × Nat × Int := rcT (1 - (rkA key l k f).1) (64 - (rkA key l k f).1) 45 l (rkA key l k f).2.1 (rkA key l k f).2.2
def rkK (key : ByteArray) (l : List Int) (k : Nat) (f : Int) : ByteArray := key.extract 0 (rkA key l k f).1 ++ (rkT key l k f).1
/-- What the document's scan reads as a second key from k on. -/
def rcK (kind : Int) (key : ByteArray) (l : List Int) (k : Nat) (f : Int) : ByteArray × Nat × Int :=
  if (rkT key l k f).2.2 = 0 then
    (if (rkA key l k f).1 < shared key (rkK key l k f) then (⟨#[]⟩, (rkT key l k f).2.1, 13)
     else if isPairB kind key (rkK key l k f) then (rkK key l k f, (rkT key l k f).2.1, 0)
     else (rkK key l k f, (rkT key l k f).2.1, 45))
  else (⟨#[]⟩, (rkT key l k f).2.1, (rkT key l k f).2.2)

set_option maxHeartbeats 2000000 in
set_option maxRecDepth 100000 in
theorem rcKey2_any (kind : Int) (key : ByteArray) (b n cap k : Nat) (f : Int) (sa : Option Addr) (l : List Int) (a : Nat → Addr) (w : World) (hk : key.size ≤ 64) (h : Rdr w b sa n cap k f l a) :
    Calls Tryz.prog 159 #[.pointer (some ⟨b, 0, none⟩), .int .i64 kind, .string key] w fun e w' => e = .returned (.string (rcK kind key l k f).1) ∧ Touch b w w' ∧ Rdr w' b sa n cap (rcK kind key l k f).2.1 (rcK kind key l k f).2.2 l a := by
  obtain ⟨x, hx⟩ : ∃ x, Hid ((rkA key l k f).1 = x) := ⟨_, rfl⟩
  obtain ⟨k1, hk1⟩ : ∃ k1, Hid ((rkA key l k f).2.1 = k1) := ⟨_, rfl⟩
  obtain ⟨f1, hf1⟩ : ∃ f1, Hid ((rkA key l k f).2.2 = f1) := ⟨_, rfl⟩
  have hxl : x ≤ key.size := by rw [← hx.out]; exact rcU_le _ _ _ _ _
  have eT : Hid (rkT key l k f = rcT (1 - x) (64 - x) 45 l k1 f1) := by unfold rkT; rw [hx.out, hk1.out, hf1.out]; rfl
  obtain ⟨t, htt⟩ : ∃ t, Hid ((rcT (1 - x) (64 - x) 45 l k1 f1).1 = t) := ⟨_, rfl⟩
  have htl : t.size ≤ 64 - x := by rw [← htt.out]; exact rcT_size _ _ _ _ _ _
  obtain ⟨k2, hk2⟩ : ∃ k2, Hid ((rcT (1 - x) (64 - x) 45 l k1 f1).2.1 = k2) := ⟨_, rfl⟩
  obtain ⟨f2, hf2⟩ : ∃ f2, Hid ((rcT (1 - x) (64 - x) 45 l k1 f1).2.2 = f2) := ⟨_, rfl⟩
  obtain ⟨ke, hke⟩ : ∃ ke, Hid (key.extract 0 x = ke) := ⟨_, rfl⟩
  have hkl : ke.size = x := by rw [← hke.out, ByteArray.size_extract]; omega
  obtain ⟨K, hK⟩ : ∃ K, Hid (ke ++ t = K) := ⟨_, rfl⟩
  have hKl : K.size ≤ 64 := by rw [← hK.out, ByteArray.size_append]; omega
  have eK : Hid (rkK key l k f = K) := by unfold rkK; rw [hx.out, eT.out, htt.out, hke.out, hK.out]; rfl
  have hsl : ∀ V : World, (Instr.slice 9 (.string key) none (some (.int .i64 (x : Int))) none).run Tryz.prog V = .ok (.string ke) V := fun V => by
    have := run_slice_string_h V 9 key Tryz.underlying9 .i64 (x : Int) (by omega) (by omega)
    rw [← hke.out]; simpa using this
  have hadd : ∀ V : World, (Op.stringOp .add ke t).run Tryz.prog V = .ok (.string K) V := fun V => by
    rw [← hK.out]; exact run_string_add_sum V ke t (by omega)
  obtain ⟨sh, hsh⟩ : ∃ sh, Hid (shared key K = sh) := ⟨_, rfl⟩
  have hshl : sh ≤ 64 := by rw [← hsh.out]; have := shared_le key K; omega
  obtain ⟨p, hp⟩ : ∃ p, Hid (isPairB kind key K = p) := ⟨_, rfl⟩
  have EQ : Hid (rcK kind key l k f = if f2 = 0 then (if x < sh then (⟨#[]⟩, k2, 13) else if p then (K, k2, 0) else (K, k2, 45)) else (⟨#[]⟩, k2, f2)) := by
    unfold rcK; rw [eT.out, eK.out, hx.out, hk2.out, hf2.out, hsh.out, hp.out]; rfl
  have W1 : Hid (IntKind.i64.wrap (1 - (x : Int)) = 1 - (x : Int)) := by rw [Hid, IntKind.wrap_i64]; omega
  have W2 : Hid (IntKind.i64.wrap (64 - (x : Int)) = 64 - (x : Int)) := by rw [Hid, IntKind.wrap_i64]; omega
  obtain ⟨le, hle⟩ : ∃ le : Nat, Hid (1 - x = le) := ⟨_, rfl⟩
  obtain ⟨to, hto⟩ : ∃ to : Nat, Hid (64 - x = to) := ⟨_, rfl⟩
  have HS := hide h
  clear h hkl eT eK
  rw [hle.out, hto.out] at htt hk2 hf2
  go_enter Tryz.func159, Tryz.ntmps159
  go_wp2_with fail
  refine (rcUint_any key.size 45 b n cap k f sa l a _ (by decide) (by omega) HS.out).mono ?_
  rintro e w1 ⟨rfl, T1, R1⟩
  rw [show (rcU key.size 45 l k f).1 = x from hx.out]
  rw [show (rcU key.size 45 l k f).2.1 = k1 from hk1.out, show (rcU key.size 45 l k f).2.2 = f1 from hf1.out] at R1
  have HT1 := hide T1
  have HR1 := hide R1
  clear T1 R1 hx hk1 hf1
  have CT : Hid (∀ (W : World) (y z : Int), y = (le : Int) → z = (to : Int) → Rdr W b sa n cap k1 f1 l a → Calls Tryz.prog 158 #[.pointer (some ⟨b, 0, none⟩), .int .i64 y, .int .i64 z, .int .i64 45] W fun e w' => e = .returned (.string t) ∧ Touch b W w' ∧ Rdr w' b sa n cap k2 f2 l a) := fun W y z hy hz hW => by
    subst hy hz
    have := rcText_any le to 45 b n cap k1 f1 sa l a W (by decide) (by have := hle.out; omega) (by have := hto.out; omega) hW
    rwa [htt.out, hk2.out, hf2.out] at this
  clear htt hk2 hf2
  go_wp2_with fail
  all_goals
    refine (CT.out _ _ _ (by have := hle.out; omega) (by have := hto.out; omega) HR1.out).mono ?_
    rintro e w2 ⟨rfl, T2, R2⟩
    have c2 := R2.fault
    have g2 := R2.thaw
    have HT := hide (HT1.out.trans T2)
    have HR := hide R2
    clear T2 R2 HT1 HR1 CT
    by_cases hf : f2 = 0
    · subst hf
      by_cases hgt : x < sh
      · have HQ : Hid (rcK kind key l k f = (⟨#[]⟩, k2, 13)) := by rw [EQ.out, if_pos rfl, if_pos hgt]; rfl
        clear EQ
        go_wp2_with fail
        refine (rshared_any key K _ (by omega) (by omega)).mono ?_
        rintro e w3 ⟨rfl, q, rfl⟩
        rw [hsh.out]
        go_wp2
        go_ret
        rw [HQ.out]
        exact ⟨rfl, HT.out.trans (rc_break HR.out _ 13).1, (rc_break HR.out _ 13).2⟩
      · have dg : decide ((x : Int) < (sh : Int)) = false := decide_eq_false (by omega)
        cases p with
        | true =>
          have HQ : Hid (rcK kind key l k f = (K, k2, 0)) := by rw [EQ.out, if_pos rfl, if_neg hgt]; rfl
          clear EQ
          go_wp2_with fail
          refine (rshared_any key K _ (by omega) (by omega)).mono ?_
          rintro e w3 ⟨rfl, q, rfl⟩
          rw [hsh.out]
          go_wp2_with fail
          refine (rsecond_any kind key K _).mono ?_
          rintro e w3 ⟨rfl, rfl⟩
          rw [hp.out]
          go_wp2
          go_ret
          rw [HQ.out]
          exact ⟨rfl, HT.out.drewN _, HR.out.drewN _⟩
        | false =>
          have HQ : Hid (rcK kind key l k f = (K, k2, 45)) := by rw [EQ.out, if_pos rfl, if_neg hgt]; rfl
          clear EQ
          go_wp2_with fail
          refine (rshared_any key K _ (by omega) (by omega)).mono ?_
          rintro e w3 ⟨rfl, q, rfl⟩
          rw [hsh.out]
          go_wp2_with fail
          refine (rsecond_any kind key K _).mono ?_
          rintro e w3 ⟨rfl, rfl⟩
          rw [hp.out]
          go_wp2
          go_ret
          rw [HQ.out]
          exact ⟨rfl, HT.out.trans (rc_break HR.out _ 45).1, (rc_break HR.out _ 45).2⟩
    · have HQ : Hid (rcK kind key l k f = (⟨#[]⟩, k2, f2)) := by rw [EQ.out, if_neg hf]; rfl
      have hb : (f2 != 0) = true := by rw [bne_iff_ne]; exact hf
      clear EQ hf
      go_wp2
      go_ret
      rw [HQ.out]
      exact ⟨rfl, HT.out, HR.out⟩
end Go.Proofs.YtlhididcanedhaaGreatDoor
