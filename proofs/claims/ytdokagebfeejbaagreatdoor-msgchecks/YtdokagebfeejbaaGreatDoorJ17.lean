/- Texts of the proof, joined. -/
import Derived.Test.YtdokagebfeejbaaGreatDoorJ16
import Derived.Test.YtdokagebfeejbaaGreatDoorJ01
import Derived.Deep.Cut
import Derived.Deep.MidRow
import Derived.Test.YtdokagebfeejbaaGreatDoorJ07
import Derived.Test.YtdokagebfeejbaaGreatDoorJ13
/- A store into a block of values. -/
namespace Go.Proofs.YtdokagebfeejbaaGreatDoor
open Go.RowKit Go.Wire1

end Go.Proofs.YtdokagebfeejbaaGreatDoor
/- What a scan reads of a PrepareOK behind its head, and the leaf of told without a vote. -/
namespace Go.Proofs.YtdokagebfeejbaaGreatDoor
open Go.RowKit Go.Wire1

/-- A PrepareOK's vote: VBal, and what the instance runs. -/
structure Vt where
  st : Int
  sm : Bool
  vr : Int
  vw : Int
  c : Cm
  seq : Int
  deps : List Int
/-- The vote that is not there. -/
def vt0 : Vt := ⟨0, false, 0, 0, zeroC, 0, []⟩
def tBal (v n : Int) (kind : Nat) (row : Int) (l : List Int) (f : Int) : (Int × Int) × List Int × Int := iBalF v n kind row l f
def tVote (v n : Int) (kind : Nat) (row : Int) (l : List Int) (f : Int) : (Int × Bool) × List Int × Int := iVote v (tBal v n kind row l f).2.1 (tBal v n kind row l f).2.2
def tVb (v n : Int) (kind : Nat) (row : Int) (l : List Int) (f : Int) : (Int × Int) × List Int × Int := iBal v (tVote v n kind row l f).2.1 (tVote v n kind row l f).2.2
def tF (v n : Int) (kind : Nat) (row : Int) (l : List Int) (f : Int) : Int := refF (unl (voteB n row (tBal v n kind row l f).1.1 (tBal v n kind row l f).1.2 (tVote v n kind row l f).1.1 (tVote v n kind row l f).1.2 (tVb v n kind row l f).1.1 (tVb v n kind row l f).1.2) 54) (tVb v n kind row l f).2.2
def tLoad (v n : Int) (kind : Nat) (row : Int) (l : List Int) (f : Int) : (Cm × Int × List Int) × List Int × Int := iLoad v n ((tVote v n kind row l f).1.1 != 1) (tVb v n kind row l f).2.1 (tF v n kind row l f)
def iTold (v n : Int) (kind : Nat) (row : Int) (l : List Int) (f : Int) : ((Int × Int) × Vt) × List Int × Int :=
  if (tVote v n kind row l f).1.1 = 0 then (((tBal v n kind row l f).1, vt0), (tVote v n kind row l f).2)
  else (((tBal v n kind row l f).1, ⟨(tVote v n kind row l f).1.1, (tVote v n kind row l f).1.2, (tVb v n kind row l f).1.1, (tVb v n kind row l f).1.2, (tLoad v n kind row l f).1.1, (tLoad v n kind row l f).1.2.1, (tLoad v n kind row l f).1.2.2⟩), (tLoad v n kind row l f).2)
section
variable (w0 : World) (g : Nat) (v n : Int) (l : List Int)
end
end Go.Proofs.YtdokagebfeejbaaGreatDoor
/- The leaf of told with a vote: the vote's cells as one list. -/
namespace Go.Proofs.YtdokagebfeejbaaGreatDoor
open Go.RowKit Go.Wire1

/-- A vote's cells. -/
def vtc (kind row num x y st : Int) (sm : Bool) (p q : Int) (c : Cm) (sq : Int) (u : Value) : List Value := [.int .i64 kind, .int .i64 row, .int .i64 num, .int .i64 x, .int .i64 y, .int .i64 st, .bool sm, .int .i64 p, .int .i64 q, .int .i64 c.kind, .int .i64 c.client, .int .i64 c.req, .string c.key, .string c.key2, .string c.val, .string c.old, .int .i64 c.n, .int .i64 sq, u]
def setL : List Value → Nat → List Value → List Value
  | cs, _, [] => cs
  | cs, o, v :: vs => setL (cs.set o v) (o + 1) vs
theorem dv_cells {B q : Nat} {u : Value} {l : List Int} (hq : q < B) : ∀ (vs : List Value) (o : Nat) (W : World), DV W B u l → DV (W.setCells q o vs) B u l
  | [], _, _, h => h
  | v :: vs, o, _, h => dv_cells hq vs (o + 1) _ (h.set v hq)
section
variable (w0 : World) (g : Nat) (v n : Int) (l : List Int)
end
end Go.Proofs.YtdokagebfeejbaaGreatDoor
/- A message as mathematics: its cells, its shape, what a scan reads of bytes; the leaf of shape for a PrepareOK. -/
namespace Go.Proofs.YtdokagebfeejbaaGreatDoor
open Go.RowKit Go.Wire1

/-- A message. -/
structure Ms where
  kind : Int
  row : Int
  num : Int
  x : Int
  y : Int
  p : Int
  q : Int
  st : Int
  sm : Bool
  c : Cm
  sq : Int
  dl : List Int
/-- A message's cells; u: its Deps. -/
def mgc (m : Ms) (u : Value) : List Value := [.int .i64 m.kind, .int .i64 m.row, .int .i64 m.num, .int .i64 m.x, .int .i64 m.y, .int .i64 m.p, .int .i64 m.q, .int .i64 m.st, .bool m.sm, .int .i64 m.c.kind, .int .i64 m.c.client, .int .i64 m.c.req, .string m.c.key, .string m.c.key2, .string m.c.val, .string m.c.old, .int .i64 m.c.n, .int .i64 m.sq, u]
def zeroM : Ms := ⟨0, 0, 0, 0, 0, 0, 0, 0, false, zeroC, 0, []⟩
def ldc (c : Cm) (sq : Int) (u : Value) : List Value := [.int .i64 c.kind, .int .i64 c.client, .int .i64 c.req, .string c.key, .string c.key2, .string c.val, .string c.old, .int .i64 c.n, .int .i64 sq, u]
/-- Which shape a message has: 0 a Want (or no kind), 1 a proposal, 2 an estimate, 3 balloted, 4 a commit, 5 no vote, 6 a vote, 7 a nack. -/
def shK (m : Ms) : Nat := if m.kind = 1 ∨ m.kind = 3 then 1 else if m.kind = 2 then 2 else if m.kind = 4 ∨ m.kind = 6 then 3 else if m.kind = 5 then 4 else if m.kind = 7 then (if m.st = 0 then 5 else 6) else if m.kind = 8 then 7 else 0
def shT : Nat → TypeId
  | 1 => 94
  | 2 => 96
  | 3 => 98
  | 4 => 100
  | 5 => 101
  | 6 => 103
  | 7 => 105
  | _ => 107
def hdc (m : Ms) : List Value := [.int .i64 m.kind, .int .i64 m.row, .int .i64 m.num]
def shC (m : Ms) (u : Value) : Nat → List Value
  | 1 => [.int .i64 m.kind, .int .i64 m.row, .int .i64 m.num, .int .i64 m.x, .int .i64 m.y, .int .i64 m.c.kind, .int .i64 m.c.client, .int .i64 m.c.req, .string m.c.key, .string m.c.key2, .string m.c.val, .string m.c.old, .int .i64 m.c.n, .int .i64 m.sq, u]
  | 2 => [.int .i64 m.kind, .int .i64 m.row, .int .i64 m.num, .int .i64 m.x, .int .i64 m.y, .int .i64 m.sq, u]
  | 3 => [.int .i64 m.kind, .int .i64 m.row, .int .i64 m.num, .int .i64 m.x, .int .i64 m.y]
  | 4 => [.int .i64 m.kind, .int .i64 m.row, .int .i64 m.num, .int .i64 m.c.kind, .int .i64 m.c.client, .int .i64 m.c.req, .string m.c.key, .string m.c.key2, .string m.c.val, .string m.c.old, .int .i64 m.c.n, .int .i64 m.sq, u]
  | 5 => [.int .i64 m.kind, .int .i64 m.row, .int .i64 m.num, .int .i64 m.x, .int .i64 m.y]
  | 6 => vtc m.kind m.row m.num m.x m.y m.st m.sm m.p m.q m.c m.sq u
  | 7 => [.int .i64 m.kind, .int .i64 m.row, .int .i64 m.num, .int .i64 m.x, .int .i64 m.y, .int .i64 m.p, .int .i64 m.q]
  | _ => [.int .i64 m.kind, .int .i64 m.row, .int .i64 m.num]
/-- A message's shape, as the program holds it. -/
def shV (m : Ms) (u : Value) : Value := .iface (shT (shK m)) (.agg (shC m u (shK m)).toArray)
/-- The fields of a message that its shape has; the others are zero. -/
def only (m : Ms) : Nat → Ms
  | 1 => ⟨m.kind, m.row, m.num, m.x, m.y, 0, 0, 0, false, m.c, m.sq, m.dl⟩
  | 2 => ⟨m.kind, m.row, m.num, m.x, m.y, 0, 0, 0, false, zeroC, m.sq, m.dl⟩
  | 3 => ⟨m.kind, m.row, m.num, m.x, m.y, 0, 0, 0, false, zeroC, 0, []⟩
  | 4 => ⟨m.kind, m.row, m.num, 0, 0, 0, 0, 0, false, m.c, m.sq, m.dl⟩
  | 5 => ⟨m.kind, m.row, m.num, m.x, m.y, 0, 0, 0, false, zeroC, 0, []⟩
  | 6 => m
  | 7 => ⟨m.kind, m.row, m.num, m.x, m.y, m.p, m.q, 0, false, zeroC, 0, []⟩
  | _ => ⟨m.kind, m.row, m.num, 0, 0, 0, 0, 0, false, zeroC, 0, []⟩
def hasD : Nat → Bool
  | 1 => true
  | 2 => true
  | 4 => true
  | 6 => true
  | _ => false
def onlyU (u : Value) (k : Nat) : Value := if hasD k then u else .slice none 0 0

/-- What a scan reads of a PrepareOK behind its head. -/
def rdTold (v n row num : Int) (l : List Int) (f : Int) : Ms × List Int × Int :=
  match iBalF v n 7 row l f with
  | ((x, y), l1, f1) => match iVote v l1 f1 with
    | ((st, sm), l2, f2) => if st = 0 then (⟨7, row, num, x, y, 0, 0, 0, false, zeroC, 0, []⟩, l2, f2) else
      match iBal v l2 f2 with
      | ((p, q), l3, f3) => match iLoad v n (st != 1) l3 (refF (unl (voteB n row x y st sm p q) 54) f3) with
        | ((c, sq, dl), l4, f4) => (⟨7, row, num, x, y, p, q, st, sm, c, sq, dl⟩, l4, f4)
/-- What a scan reads of a message. -/
def rdMsg (v n : Int) (l : List Int) (f : Int) : Ms × List Int × Int :=
  match iHead v n l f with
  | ((k, row, num), l1, f1) =>
    if k = 1 then (match iBalF v n 1 row l1 f1 with
      | ((x, y), l2, f2) => match iLoad v n false l2 f2 with
        | ((c, sq, dl), l3, f3) => (⟨1, row, num, x, y, 0, 0, 0, false, c, sq, dl⟩, l3, f3))
    else if k = 3 then (match iBalF v n 3 row l1 f1 with
      | ((x, y), l2, f2) => match iLoad v n true l2 f2 with
        | ((c, sq, dl), l3, f3) => (⟨3, row, num, x, y, 0, 0, 0, false, c, sq, dl⟩, l3, f3))
    else if k = 2 then (match iBalF v n 2 row l1 f1 with
      | ((x, y), l2, f2) => match iAttr v n false l2 f2 with
        | ((sq, dl), l3, f3) => (⟨2, row, num, x, y, 0, 0, 0, false, zeroC, sq, dl⟩, l3, f3))
    else if k = 4 then (match iBalF v n 4 row l1 f1 with
      | ((x, y), l2, f2) => (⟨4, row, num, x, y, 0, 0, 0, false, zeroC, 0, []⟩, l2, f2))
    else if k = 6 then (match iBalF v n 6 row l1 f1 with
      | ((x, y), l2, f2) => (⟨6, row, num, x, y, 0, 0, 0, false, zeroC, 0, []⟩, l2, f2))
    else if k = 5 then (match iLoad v n true l1 f1 with
      | ((c, sq, dl), l2, f2) => (⟨5, row, num, 0, 0, 0, 0, 0, false, c, sq, dl⟩, l2, f2))
    else if k = 7 then rdTold v n row num l1 f1
    else if k = 8 then (match iBalF v n 8 row l1 f1 with
      | ((x, y), l2, f2) => match iBal v l2 f2 with
        | ((p, q), l3, f3) => (⟨8, row, num, x, y, p, q, 0, false, zeroC, 0, []⟩, l3, refF (unl (nackB n row x y p q) 54) f3))
    else (⟨k, row, num, 0, 0, 0, 0, 0, false, zeroC, 0, []⟩, l1, f1)

section
variable (w0 : World) (g : Nat) (v n : Int) (l : List Int)
/-- What shape leaves. -/
def ShPost (w0 w : World) (g : Nat) (v n : Int) (R : Ms × List Int × Int) (r : Ending) (w' : World) : Prop := ∃ u, r = .returned (shV R.1 u) ∧ DV w' w.heap.size u R.1.dl ∧ Touch g w w' ∧ Scx w0 w' g (Vf v n) R.2.1 R.2.2

end
end Go.Proofs.YtdokagebfeejbaaGreatDoor
/- The contract of package command's Check. -/
namespace Go.Proofs.YtdokagebfeejbaaGreatDoor
open Go.RowKit Go.Wire1

theorem ver_cases {v : Int} (h : isVer v = true) : v = 1 ∨ v = 2 := by simpa [isVer] using h
theorem kd_lt {v kind : Int} (h : isKd v kind = true) : 0 ≤ kind ∧ kind < 9 := by
  simp only [isKd, Bool.and_eq_true, decide_eq_true_eq] at h
  exact ⟨h.1, h.2.1⟩

set_option maxHeartbeats 4000000 in
set_option maxRecDepth 100000 in
theorem check_any (v : Int) (c : Cm) (w : World) (hK : Knd w) (hk : c.key.size ≤ 140737488351232) (hk2 : c.key2.size ≤ 140737488351232) :
    Calls Tryz.prog 171 #[.int .i64 v, .agg #[.int .i64 c.kind, .int .i64 c.client, .int .i64 c.req, .string c.key, .string c.key2, .string c.val, .string c.old, .int .i64 c.n]] w fun e w' => e = .returned (.int .i64 (chk v c : Nat)) ∧ Below w.heap.size w w' := by
  obtain ⟨V, hV⟩ : ∃ V, V = w.alloc (.cells #[.int .i64 c.kind, .int .i64 c.client, .int .i64 c.req, .string c.key, .string c.key2, .string c.val, .string c.old, .int .i64 c.n] 27) := ⟨_, rfl⟩
  have X : Hid (CBox V w.heap.size c.kind c.client c.req c.key c.key2 c.val c.old c.n) := by rw [hV]; exact cbox_new w 27 _ _ _ _ _ _ _ _
  have BV : Hid (Below w.heap.size w V) := by rw [hV]; exact (Below.refl _ _).alloc (Nat.le_refl _) _
  have hVs : w.heap.size ≤ V.heap.size := BV.out.size
  have HK : Hid (Knd V) := hK.below BV.out (Nat.le_refl _)
  have x0 := X.out.1
  cases h1 : isVer v with
  | false =>
    have HR : Hid (chk v c = 2) := by simp [Hid, chk, h1]
    go_enter Tryz.func171, Tryz.ntmps171
    go_wp2_with fail
    rw [← hV]
    refine (isVersion_any v _).mono ?_
    rintro e w1 ⟨rfl, rfl⟩
    rw [h1]
    clear h1 hV x0
    go_wp2
    go_ret
    exact ⟨by rw [HR.out]; rfl, BV.out⟩
  | true =>
    have HV2 := hide (ver_cases h1)
    cases h2 : isKd v c.kind with
    | false =>
      have HR : Hid (chk v c = 41) := by simp [Hid, chk, h1, h2]
      go_enter Tryz.func171, Tryz.ntmps171
      go_wp2_with fail
      rw [← hV]
      refine (isVersion_any v _).mono ?_
      rintro e w1 ⟨rfl, rfl⟩
      rw [h1]
      clear h1 hV
      go_wp2_with fail
      refine (isKind_any v c.kind _ HK.out).mono ?_
      rintro e w1 ⟨rfl, rfl⟩
      rw [h2]
      clear h2 x0
      go_wp2
      go_ret
      exact ⟨by rw [HR.out]; rfl, BV.out⟩
    | true =>
      have HR : Hid (chk v c = firstF v c 7 0) := by simp [Hid, chk, h1, h2]
      obtain ⟨k0, k9⟩ := kd_lt h2
      obtain ⟨k, hkk⟩ := Int.eq_ofNat_of_zero_le k0
      have hk9 : k < 9 := by omega
      obtain ⟨hF, _⟩ := HK.out k hk9
      have hFl := fields_lt k
      have HH : Hid (∀ f, hasF c.kind f = (fieldsL.getD k 0).testBit f) := fun f => by unfold hasF; rw [hkk]; rfl
      generalize fieldsL.getD k 0 = F at *
      have hkk' : Hid (c.kind = (k : Int)) := hkk
      clear hkk k0 k9
      go_enter Tryz.func171, Tryz.ntmps171
      go_wp2_with fail
      rw [← hV]
      refine (isVersion_any v _).mono ?_
      rintro e w1 ⟨rfl, rfl⟩
      rw [h1]
      clear h1 hV
      go_wp2_with fail
      refine (isKind_any v c.kind _ HK.out).mono ?_
      rintro e w1 ⟨rfl, rfl⟩
      rw [h2]
      clear h2
      rw [hkk'.out] at x0
      go_wp2_with fail
      go_loopw [6] (fun x wr => ∃ f : Nat, x = .int .i64 (bitF f) ∧ f ≤ 7 ∧ Hid (firstF v c 7 0 = firstF v c (7 - f) f) ∧ Hid (Below V.heap.size V wr)) (fun x _ => 200 - (intOf x).toNat)
      case atStart => exact ⟨0, rfl, by omega, rfl, Below.refl _ _⟩
      case round =>
        obtain ⟨f, rfl, hf, HF, HB⟩ := hrel
        have hws := HB.out.size
        by_cases hf7 : f < 7
        · have hy : bitF f ≤ 64 ∧ 1 ≤ bitF f ∧ bitF (f + 1) = bitF f * 2 := by
            rcases (by omega : f = 0 ∨ f = 1 ∨ f = 2 ∨ f = 3 ∨ f = 4 ∨ f = 5 ∨ f = 6) with rfl | rfl | rfl | rfl | rfl | rfl | rfl <;> decide
          have hbt := bits_has F f hFl hf7
          rw [← HH.out f] at hbt
          obtain ⟨x0', x1, x2, x3, x4, x5, x6, x7⟩ := X.out.below HB.out (Nat.le_refl _)
          obtain ⟨y, hyy⟩ : ∃ y, Hid (bitF f = y) := ⟨_, rfl⟩
          have hy2 := hide hy.2.2
          obtain ⟨hy64, hy1, _⟩ := hy
          rw [hyy.out] at hbt hy64 hy1 ⊢
          have hne : (y == 0) = false := by rw [beq_eq_false_iff_ne]; omega
          cases hh : hasF c.kind f with
          | true =>
            rw [hh, if_pos rfl] at hbt
            go_wp2_with fail
            rw [← hyy.out]
            refine (isAllowed_any v c f _ hf7 hk hk2).mono ?_
            rintro e w5 ⟨rfl, hb5⟩
            rw [hyy.out]
            have B5 : Hid (Below V.heap.size V w5) := HB.out.trans (hb5.mono hws)
            cases ha : allowF v c f with
            | true =>
              have HN := hide (firstF_next hf7 HF.out (by simp [faultF, hh, ha]))
              clear hb5 hh ha
              go_wp2
              go_roundw
              case rel => exact ⟨f + 1, by rw [hy2.out, hyy.out], by omega, HN, B5⟩
              case measure => simp [intOf]; omega
            | false =>
              by_cases hf6 : f = 6
              · subst hf6; simp [allowF] at ha
              · have HN : Hid (chk v c = errF f) := by
                  rw [HR.out, firstF_hit hf7 HF.out (by simp [faultF, hh, ha, errF, hf6])]
                  simp [Hid, faultF, hh, ha]
                clear hb5 hh ha
                go_wp2_with fail
                rw [← hyy.out]
                refine (faultOf_any f _ hf7).mono ?_
                rintro e w6 ⟨rfl, rfl⟩
                go_wp2
                go_ret
                exact ⟨by rw [HN.out]; rfl, BV.out.trans (B5.out.mono hVs)⟩
          | false =>
            rw [hh] at hbt
            simp only [Bool.false_eq_true, if_false] at hbt
            go_wp2_with fail
            rw [← hyy.out]
            refine (isZero_any c f _ hf7).mono ?_
            rintro e w5 ⟨rfl, hb5⟩
            rw [hyy.out]
            have B5 : Hid (Below V.heap.size V w5) := HB.out.trans (hb5.mono hws)
            cases ha : zeroF c f with
            | true =>
              have HN := hide (firstF_next hf7 HF.out (by simp [faultF, hh, ha]))
              clear hb5 hh ha
              go_wp2
              go_roundw
              case rel => exact ⟨f + 1, by rw [hy2.out, hyy.out], by omega, HN, B5⟩
              case measure => simp [intOf]; omega
            | false =>
              have HN : Hid (chk v c = 48) := by
                rw [HR.out, firstF_hit hf7 HF.out (by simp [faultF, hh, ha])]
                simp [Hid, faultF, hh, ha]
              clear hb5 hh ha
              go_wp2
              go_ret
              exact ⟨by rw [HN.out]; rfl, BV.out.trans (B5.out.mono hVs)⟩
        · obtain rfl : f = 7 := by omega
          rw [show bitF 7 = 128 from rfl]
          have HN : Hid (chk v c = 0) := by rw [HR.out, HF.out]; rfl
          go_wp2
          go_ret
          exact ⟨by rw [HN.out]; rfl, BV.out.trans (HB.out.mono hVs)⟩
end Go.Proofs.YtdokagebfeejbaaGreatDoor
/- The contract of mootref.SameCmd. -/
namespace Go.Proofs.YtdokagebfeejbaaGreatDoor
open Go.RowKit Go.Wire1

def sameC (c d : Cm) : Bool := (c.kind == d.kind) && (c.client == d.client) && (c.req == d.req) && (c.n == d.n) && teq c.key d.key && teq c.key2 d.key2 && teq c.val d.val && teq c.old d.old

set_option maxHeartbeats 1000000 in
set_option maxRecDepth 100000 in
theorem sameCmd_any (c d : Cm) (w : World) :
    Calls Tryz.prog 44 #[.agg #[.int .i64 c.kind, .int .i64 c.client, .int .i64 c.req, .string c.key, .string c.key2, .string c.val, .string c.old, .int .i64 c.n], .agg #[.int .i64 d.kind, .int .i64 d.client, .int .i64 d.req, .string d.key, .string d.key2, .string d.val, .string d.old, .int .i64 d.n]] w fun e w' => e = .returned (.bool (sameC c d)) ∧ Below w.heap.size w w' := by
  obtain ⟨r, hr⟩ : ∃ r, Hid (sameC c d = r) := ⟨_, rfl⟩
  rw [hr.out]
  have BB : ∀ o p, Hid (Below w.heap.size w ((w.alloc o).alloc p)) := fun o p => ((Below.refl _ w).alloc (Nat.le_refl _) _).alloc (by simp) _
  by_cases h0 : c.kind = d.kind
  rotate_left
  · have e : Hid (r = false) := by rw [← hr.out]; simp [Hid, sameC, teq, h0]
    rw [e.out]
    clear hr e
    go_enter Tryz.func44, Tryz.ntmps44
    go_wp2
    go_ret
    exact ⟨rfl, (BB _ _).out⟩
  by_cases h1 : c.client = d.client
  rotate_left
  · have e : Hid (r = false) := by rw [← hr.out]; simp [Hid, sameC, teq, h0, h1]
    rw [e.out]
    clear hr e
    go_enter Tryz.func44, Tryz.ntmps44
    go_wp2
    go_ret
    exact ⟨rfl, (BB _ _).out⟩
  by_cases h2 : c.req = d.req
  rotate_left
  · have e : Hid (r = false) := by rw [← hr.out]; simp [Hid, sameC, teq, h0, h1, h2]
    rw [e.out]
    clear hr e
    go_enter Tryz.func44, Tryz.ntmps44
    go_wp2
    go_ret
    exact ⟨rfl, (BB _ _).out⟩
  by_cases h3 : c.n = d.n
  rotate_left
  · have e : Hid (r = false) := by rw [← hr.out]; simp [Hid, sameC, teq, h0, h1, h2, h3]
    rw [e.out]
    clear hr e
    go_enter Tryz.func44, Tryz.ntmps44
    go_wp2
    go_ret
    exact ⟨rfl, (BB _ _).out⟩
  cases h4 : (c.key.toList == d.key.toList) with
  | false =>
    have e : Hid (r = false) := by rw [← hr.out]; simp [Hid, sameC, teq, h0, h1, h2, h3, h4]
    rw [e.out]
    clear hr e
    go_enter Tryz.func44, Tryz.ntmps44
    go_wp2
    go_ret
    exact ⟨rfl, (BB _ _).out⟩
  | true =>
    cases h5 : (c.key2.toList == d.key2.toList) with
    | false =>
      have e : Hid (r = false) := by rw [← hr.out]; simp [Hid, sameC, teq, h0, h1, h2, h3, h4, h5]
      rw [e.out]
      clear hr e
      go_enter Tryz.func44, Tryz.ntmps44
      go_wp2
      go_ret
      exact ⟨rfl, (BB _ _).out⟩
    | true =>
      cases h6 : (c.val.toList == d.val.toList) with
      | false =>
        have e : Hid (r = false) := by rw [← hr.out]; simp [Hid, sameC, teq, h0, h1, h2, h3, h4, h5, h6]
        rw [e.out]
        clear hr e
        go_enter Tryz.func44, Tryz.ntmps44
        go_wp2
        go_ret
        exact ⟨rfl, (BB _ _).out⟩
      | true =>
        cases h7 : (c.old.toList == d.old.toList) with
        | false =>
          have e : Hid (r = false) := by rw [← hr.out]; simp [Hid, sameC, teq, h0, h1, h2, h3, h4, h5, h6, h7]
          rw [e.out]
          clear hr e
          go_enter Tryz.func44, Tryz.ntmps44
          go_wp2
          go_ret
          exact ⟨rfl, (BB _ _).out⟩
        | true =>
          have e : Hid (r = true) := by rw [← hr.out]; simp [Hid, sameC, teq, h0, h1, h2, h3, h4, h5, h6, h7]
          rw [e.out]
          clear hr e
          go_enter Tryz.func44, Tryz.ntmps44
          go_wp2
          go_ret
          exact ⟨rfl, (BB _ _).out⟩
end Go.Proofs.YtdokagebfeejbaaGreatDoor
