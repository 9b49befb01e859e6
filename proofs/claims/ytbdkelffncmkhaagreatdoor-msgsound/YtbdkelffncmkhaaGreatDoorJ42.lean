/- Texts of the proof, joined. -/
import Derived.Test.YtbdkelffncmkhaaGreatDoorJ41
import Derived.Deep.Cut
import Derived.Test.YtbdkelffncmkhaaGreatDoorJ02
import Derived.Deep.QuietTactic
import Derived.BigQuiet
import Derived.Test.YtbdkelffncmkhaaGreatDoorJ01
import Derived.Test.YtbdkelffncmkhaaGreatDoorJ40
import Derived.Test.YtbdkelffncmkhaaGreatDoorJ34
import Derived.Test.YtbdkelffncmkhaaGreatDoorJ04
/- The contract of mootref.SameMsg at two messages that are alike. -/
namespace Go.Proofs.YtbdkelffncmkhaaGreatDoor
open Go.RowKit Go.Wire1

theorem sameC_self (c : Cm) : sameC c c = true := by simp [sameC, teq]
theorem sameB_self (l : List Int) : sameB l l = true := by
  unfold sameB
  simp
set_option maxHeartbeats 1000000 in
set_option maxRecDepth 100000 in
theorem sameInst_same (x y : Int) (w : World) : Calls Tryz.prog 20 #[.agg #[.int .i64 x, .int .i64 y], .agg #[.int .i64 x, .int .i64 y]] w fun e w' => e = .returned (.bool true) ∧ Below w.heap.size w w' := by
  have BB : ∀ o p, Hid (Below w.heap.size w ((w.alloc o).alloc p)) := fun o p => ((Below.refl _ w).alloc (Nat.le_refl _) _).alloc (by simp) _
  go_enter Tryz.func20, Tryz.ntmps20
  go_wp2
  go_ret
  exact ⟨rfl, (BB _ _).out⟩
set_option maxHeartbeats 1000000 in
set_option maxRecDepth 100000 in
theorem sameBallot_same (x y : Int) (w : World) : Calls Tryz.prog 21 #[.agg #[.int .i64 x, .int .i64 y], .agg #[.int .i64 x, .int .i64 y]] w fun e w' => e = .returned (.bool true) ∧ Below w.heap.size w w' := by
  have BB : ∀ o p, Hid (Below w.heap.size w ((w.alloc o).alloc p)) := fun o p => ((Below.refl _ w).alloc (Nat.le_refl _) _).alloc (by simp) _
  go_enter Tryz.func21, Tryz.ntmps21
  go_wp2
  go_ret
  exact ⟨rfl, (BB _ _).out⟩
set_option maxHeartbeats 2000000 in
set_option maxRecDepth 100000 in
theorem sameMsg_same (m : Ms) (ua va : Option Addr) (uk uc vk vc : Nat) (w : World) (h1 : SegI w ua uk m.dl) (h2 : SegI w va vk m.dl) :
    Calls Tryz.prog 11 #[.agg (mgc m (.slice ua uk uc)).toArray, .agg (mgc m (.slice va vk vc)).toArray] w fun e w' => e = .returned (.bool true) ∧ Below w.heap.size w w' := by
  obtain ⟨V, hV⟩ : ∃ V, V = (w.alloc (.cells (mgc m (.slice ua uk uc)).toArray 32)).alloc (.cells (mgc m (.slice va vk vc)).toArray 32) := ⟨_, rfl⟩
  have BV : Hid (Below w.heap.size w V) := by rw [hV]; exact ((Below.refl _ w).alloc (Nat.le_refl _) _).alloc (by simp) _
  have QV : Hid (Blk V w.heap.size (mgc m (.slice ua uk uc)) ∧ Blk V (w.heap.size + 1) (mgc m (.slice va vk vc))) := by
    rw [hV]
    refine ⟨(blk_new w 32 (mgc m (.slice ua uk uc))).on ((Below.refl _ _).alloc (Nat.le_refl _) _), ?_⟩
    have := blk_new (w.alloc (.cells (mgc m (.slice ua uk uc)).toArray 32)) 32 (mgc m (.slice va vk vc))
    rwa [show (w.alloc (.cells (mgc m (.slice ua uk uc)).toArray 32)).heap.size = w.heap.size + 1 by simp] at this
  have H1 := hide h1
  have H2 := hide h2
  clear h1 h2
  have Vp0 : V.cell? ⟨w.heap.size, 0, none⟩ = some (.int .i64 m.kind) := QV.out.1.cell 0 _ rfl
  have Vq0 : V.cell? ⟨w.heap.size + 1, 0, none⟩ = some (.int .i64 m.kind) := QV.out.2.cell 0 _ rfl
  have Vp7 : V.cell? ⟨w.heap.size, 7, none⟩ = some (.int .i64 m.st) := QV.out.1.cell 7 _ rfl
  have Vq7 : V.cell? ⟨w.heap.size + 1, 7, none⟩ = some (.int .i64 m.st) := QV.out.2.cell 7 _ rfl
  have Vp8 : V.cell? ⟨w.heap.size, 8, none⟩ = some (.bool m.sm) := QV.out.1.cell 8 _ rfl
  have Vq8 : V.cell? ⟨w.heap.size + 1, 8, none⟩ = some (.bool m.sm) := QV.out.2.cell 8 _ rfl
  have Vp17 : V.cell? ⟨w.heap.size, 17, none⟩ = some (.int .i64 m.sq) := QV.out.1.cell 17 _ rfl
  have Vq17 : V.cell? ⟨w.heap.size + 1, 17, none⟩ = some (.int .i64 m.sq) := QV.out.2.cell 17 _ rfl
  have Vp1 : V.cell? ⟨w.heap.size, 1, none⟩ = some (.int .i64 m.row) := QV.out.1.cell 1 _ rfl
  have Vq1 : V.cell? ⟨w.heap.size + 1, 1, none⟩ = some (.int .i64 m.row) := QV.out.2.cell 1 _ rfl
  have Vp2 : V.cell? ⟨w.heap.size, 2, none⟩ = some (.int .i64 m.num) := QV.out.1.cell 2 _ rfl
  have Vq2 : V.cell? ⟨w.heap.size + 1, 2, none⟩ = some (.int .i64 m.num) := QV.out.2.cell 2 _ rfl
  go_enter Tryz.func11, Tryz.ntmps11
  go_upto_region 1 with fail
  rw [← hV]
  clear hV
  go_wp2_with fail
  refine (sameInst_same m.row m.num _).mono ?_
  rintro e W ⟨rfl, h⟩
  have BW : Hid (Below w.heap.size w W) := BV.out.trans (h.mono BV.out.size)
  have QW : Hid (Blk W w.heap.size (mgc m (.slice ua uk uc)) ∧ Blk W (w.heap.size + 1) (mgc m (.slice va vk vc))) := ⟨QV.out.1.on h, QV.out.2.on h⟩
  clear h
  have Wp3 : W.cell? ⟨w.heap.size, 3, none⟩ = some (.int .i64 m.x) := QW.out.1.cell 3 _ rfl
  have Wq3 : W.cell? ⟨w.heap.size + 1, 3, none⟩ = some (.int .i64 m.x) := QW.out.2.cell 3 _ rfl
  have Wp4 : W.cell? ⟨w.heap.size, 4, none⟩ = some (.int .i64 m.y) := QW.out.1.cell 4 _ rfl
  have Wq4 : W.cell? ⟨w.heap.size + 1, 4, none⟩ = some (.int .i64 m.y) := QW.out.2.cell 4 _ rfl
  go_wp2_with fail
  refine (sameBallot_same m.x m.y _).mono ?_
  rintro e X ⟨rfl, h⟩
  have BX : Hid (Below w.heap.size w X) := BW.out.trans (h.mono BW.out.size)
  have QX : Hid (Blk X w.heap.size (mgc m (.slice ua uk uc)) ∧ Blk X (w.heap.size + 1) (mgc m (.slice va vk vc))) := ⟨QW.out.1.on h, QW.out.2.on h⟩
  clear h
  have Xp5 : X.cell? ⟨w.heap.size, 5, none⟩ = some (.int .i64 m.p) := QX.out.1.cell 5 _ rfl
  have Xq5 : X.cell? ⟨w.heap.size + 1, 5, none⟩ = some (.int .i64 m.p) := QX.out.2.cell 5 _ rfl
  have Xp6 : X.cell? ⟨w.heap.size, 6, none⟩ = some (.int .i64 m.q) := QX.out.1.cell 6 _ rfl
  have Xq6 : X.cell? ⟨w.heap.size + 1, 6, none⟩ = some (.int .i64 m.q) := QX.out.2.cell 6 _ rfl
  go_wp2_with fail
  refine (sameBallot_same m.p m.q _).mono ?_
  rintro e X2 ⟨rfl, h⟩
  have BX2 : Hid (Below w.heap.size w X2) := BX.out.trans (h.mono BX.out.size)
  have QX2 : Hid (Blk X2 w.heap.size (mgc m (.slice ua uk uc)) ∧ Blk X2 (w.heap.size + 1) (mgc m (.slice va vk vc))) := ⟨QX.out.1.on h, QX.out.2.on h⟩
  clear h
  have X2p9 : X2.cell? ⟨w.heap.size, 9, none⟩ = some (.int .i64 m.c.kind) := QX2.out.1.cell 9 _ rfl
  have X2q9 : X2.cell? ⟨w.heap.size + 1, 9, none⟩ = some (.int .i64 m.c.kind) := QX2.out.2.cell 9 _ rfl
  have X2p10 : X2.cell? ⟨w.heap.size, 10, none⟩ = some (.int .i64 m.c.client) := QX2.out.1.cell 10 _ rfl
  have X2q10 : X2.cell? ⟨w.heap.size + 1, 10, none⟩ = some (.int .i64 m.c.client) := QX2.out.2.cell 10 _ rfl
  have X2p11 : X2.cell? ⟨w.heap.size, 11, none⟩ = some (.int .i64 m.c.req) := QX2.out.1.cell 11 _ rfl
  have X2q11 : X2.cell? ⟨w.heap.size + 1, 11, none⟩ = some (.int .i64 m.c.req) := QX2.out.2.cell 11 _ rfl
  have X2p12 : X2.cell? ⟨w.heap.size, 12, none⟩ = some (.string m.c.key) := QX2.out.1.cell 12 _ rfl
  have X2q12 : X2.cell? ⟨w.heap.size + 1, 12, none⟩ = some (.string m.c.key) := QX2.out.2.cell 12 _ rfl
  have X2p13 : X2.cell? ⟨w.heap.size, 13, none⟩ = some (.string m.c.key2) := QX2.out.1.cell 13 _ rfl
  have X2q13 : X2.cell? ⟨w.heap.size + 1, 13, none⟩ = some (.string m.c.key2) := QX2.out.2.cell 13 _ rfl
  have X2p14 : X2.cell? ⟨w.heap.size, 14, none⟩ = some (.string m.c.val) := QX2.out.1.cell 14 _ rfl
  have X2q14 : X2.cell? ⟨w.heap.size + 1, 14, none⟩ = some (.string m.c.val) := QX2.out.2.cell 14 _ rfl
  have X2p15 : X2.cell? ⟨w.heap.size, 15, none⟩ = some (.string m.c.old) := QX2.out.1.cell 15 _ rfl
  have X2q15 : X2.cell? ⟨w.heap.size + 1, 15, none⟩ = some (.string m.c.old) := QX2.out.2.cell 15 _ rfl
  have X2p16 : X2.cell? ⟨w.heap.size, 16, none⟩ = some (.int .i64 m.c.n) := QX2.out.1.cell 16 _ rfl
  have X2q16 : X2.cell? ⟨w.heap.size + 1, 16, none⟩ = some (.int .i64 m.c.n) := QX2.out.2.cell 16 _ rfl
  go_wp2_with fail
  refine (sameCmd_any m.c m.c _).mono ?_
  rintro e Y ⟨rfl, h⟩
  rw [sameC_self]
  have BY : Hid (Below w.heap.size w Y) := BX2.out.trans (h.mono BX2.out.size)
  have QY : Hid (Blk Y w.heap.size (mgc m (.slice ua uk uc)) ∧ Blk Y (w.heap.size + 1) (mgc m (.slice va vk vc))) := ⟨QX2.out.1.on h, QX2.out.2.on h⟩
  clear h

  have Yp18 : Y.cell? ⟨w.heap.size, 18, none⟩ = some (.slice ua uk uc) := QY.out.1.cell 18 _ rfl
  have Yq18 : Y.cell? ⟨w.heap.size + 1, 18, none⟩ = some (.slice va vk vc) := QY.out.2.cell 18 _ rfl
  go_wp2_with fail
  refine (sameI_any _ _ _ _ _ _ _ _ _ (H1.out.below BY.out (Nat.le_refl _)) (H2.out.below BY.out (Nat.le_refl _))).mono ?_
  rintro e Z ⟨rfl, q, rfl⟩
  rw [sameB_self]
  go_wp2
  go_ret
  exact ⟨rfl, ⟨BY.out.1, BY.out.2, BY.out.3, BY.out.4, BY.out.5⟩⟩
end Go.Proofs.YtbdkelffncmkhaaGreatDoor
/- The contract of SameBytes: two lists of bytes in memory, alike or not; it only reads. -/
namespace Go.Proofs.YtbdkelffncmkhaaGreatDoor
open Go.RowKit Go.Wire1

set_option maxHeartbeats 400000 in
set_option maxRecDepth 100000 in
theorem same_any (a b : Option Addr) (n m cap cap' : Nat) (xs ys : List Int) (w : World) (ha : Seg w a n xs) (hb : Seg w b m ys) :
    Calls Tryz.prog 9 #[.slice a n cap, .slice b m cap'] w fun e w' => e = .returned (.bool (sameB xs ys)) ∧ ∃ q, w' = w.drewN q := by
  obtain ⟨hn, hn', ha⟩ := ha
  obtain ⟨hm, hm', hb⟩ := hb
  unfold maxLen at hn' hm'
  by_cases hnm : n = m
  · subst hnm
    have HN : Hid (xs.length = n) := hn
    have HM : Hid (ys.length = n) := hm
    clear hn hm
    go_enter Tryz.func9, Tryz.ntmps9
    go_wp2
    go_loopw [5] (fun i wr => ∃ k q : Nat, i = .int .i64 (k : Int) ∧ k ≤ n ∧ Hid (xs.take k = ys.take k) ∧ wr = w.drewN q) (fun i _ => n - (intOf i).toNat)
    case atStart => exact ⟨0, 0, rfl, Nat.zero_le _, rfl, rfl⟩
    case round =>
      obtain ⟨k, q, rfl, hk, HT, rfl⟩ := hrel
      by_cases hlt : k < n
      · obtain ⟨ba, oa, rfl, hca⟩ := ha (by omega)
        obtain ⟨bb, ob, rfl, hcb⟩ := hb (by omega)
        have ca : w.cell? ⟨ba, oa + k, none⟩ = some (.int .u8 (xs.getD k 0)) := hca k hlt
        have cb : w.cell? ⟨bb, ob + k, none⟩ = some (.int .u8 (ys.getD k 0)) := hcb k hlt
        clear ha hb hca hcb
        by_cases he : xs.getD k 0 = ys.getD k 0
        · have HT' : Hid (xs.take (k + 1) = ys.take (k + 1)) := take_step (by have := HN.out; omega) (by have := HM.out; omega) HT.out he
          rw [← he] at cb
          clear he
          generalize xs.getD k 0 = c at ca cb
          go_wp2
          go_quiet (fail)
          go_wp2
          go_roundw
          case rel => exact ⟨k + 1, _, by go_num, by omega, HT', rfl⟩
          case measure => simp [intOf]; omega
        · have HS : Hid (sameB xs ys = false) := same_no he
          have hb' : (xs.getD k 0 != ys.getD k 0) = true := by simpa using he
          clear he
          generalize xs.getD k 0 = c at ca hb'
          generalize ys.getD k 0 = d at cb hb'
          go_wp2
          go_quiet (fail)
          go_wp2
          go_ret
          exact ⟨by rw [HS.out]; rfl, _, by rw [World.drewN_drewN]⟩
      · have HS : Hid (sameB xs ys = true) := same_yes (by have := HT.out; rwa [List.take_of_length_le (by have := HN.out; omega), List.take_of_length_le (by have := HM.out; omega)] at this)
        go_wp2
        go_ret
        exact ⟨by rw [HS.out]; rfl, _, rfl⟩
  · have HS : Hid (sameB xs ys = false) := same_len (by omega)
    have hne : ((n : Int) != (m : Int)) = true := by rw [bne_iff_ne]; omega
    go_enter Tryz.func9, Tryz.ntmps9
    go_wp2
    go_ret
    exact ⟨by rw [HS.out]; rfl, 0, rfl⟩
end Go.Proofs.YtbdkelffncmkhaaGreatDoor
/- The contract of the statements' own known. -/
namespace Go.Proofs.YtbdkelffncmkhaaGreatDoor
open Go.RowKit Go.Wire1

set_option maxHeartbeats 1000000 in
set_option maxRecDepth 100000 in
theorem num5_any (e : Int) (w : World) :
    Calls Tryz.prog 6 #[.int .i64 e] w fun e' w' => e' = .returned (.int .i64 e) ∧ w = w' := by
  go_enter Tryz.func6, Tryz.ntmps6
  go_wp2
  go_ret
  exact ⟨rfl, rfl⟩
def zeroL : List Value := [.int .i64 0, .int .i64 0, .int .i64 0, .int .i64 0, .int .i64 0, .int .i64 0, .int .i64 0, .int .i64 0, .bool false, .int .i64 0, .int .i64 0, .int .i64 0, .string ⟨#[]⟩, .string ⟨#[]⟩, .string ⟨#[]⟩, .string ⟨#[]⟩, .int .i64 0, .int .i64 0, .slice none 0 0]
/-- A message whose bytes the document tells. -/
def setM : Ms := ⟨4, 1, 5, 2, 0, 0, 0, 0, false, zeroC, 0, []⟩
def tenM : Ms := ⟨10, 0, 0, 0, 0, 0, 0, 0, false, zeroC, 0, []⟩
theorem set_chk : chkM 2 3 setM = 0 := by kernel_rfl
theorem ten_chk : chkM 2 3 tenM = 51 := by kernel_rfl
theorem set_dec : decM 2 3 [4, 41, 16] = (setM, 0) := by kernel_rfl
theorem segI_nil (w : World) : SegI w none 0 [] := ⟨rfl, by unfold maxLen; omega, fun h => by omega, fun j => by simp⟩
theorem mbox_stored {w U W : World} {q : Nat} {cs vs : List Value} (h : Blk U q cs) (hl : vs.length = cs.length) (hb : Below w.heap.size w U) (hq : w.heap.size ≤ q) (e : W = U.setCells q 0 vs) : Blk W q vs ∧ Below w.heap.size w W := by
  subst e
  exact ⟨blk_cells h hl, below_cells hq _ _ _ hb⟩
theorem mown_src {w : World} {B : Nat} {v : Value} {l : List Int} (h : w.ownsRow B 5 1 v l.length (l.map (Value.int .u8))) : ∃ a cap, v = .slice a l.length cap ∧ Src a l.length cap ∧ Seg w a l.length l := by
  obtain ⟨a, cap, hv, h1, h2, h3⟩ := seg_own h
  subst hv
  refine ⟨a, cap, rfl, ?_, h3⟩
  rcases h.2 with ⟨e, h0⟩ | ⟨g, cp, cur, e, _⟩
  · injection e with e1 e2 e3
    exact .inl ⟨h0, e3⟩
  · injection e with e1 e2 e3
    exact .inr ⟨⟨g, 0, e1⟩, h1, h2⟩
set_option maxHeartbeats 4000000 in
set_option maxRecDepth 100000 in
theorem settled5_any (w : World) :
    Calls Tryz.prog 8 #[] w fun e w' => e = .returned (.agg (mgc setM (.slice none 0 0)).toArray) ∧ Below w.heap.size w w' := by
  obtain ⟨U, hU⟩ : ∃ U, U = w.alloc (.cells zeroL.toArray 32) := ⟨_, rfl⟩
  have BU : Hid (Below w.heap.size w U) := by rw [hU]; exact (Below.refl _ w).alloc (Nat.le_refl _) _
  have QM : Hid (Blk U w.heap.size zeroL) := by rw [hU]; exact blk_new w 32 zeroL
  have TH : Hid (U.there w.heap.size 0 19) := QM.out.there
  obtain ⟨X, hX⟩ : ∃ X, X = U.setCells w.heap.size 0 (mgc setM (.slice none 0 0)) := ⟨_, rfl⟩
  have R := hide (mbox_stored QM.out (by rfl) BU.out (Nat.le_refl _) hX)
  go_enter Tryz.func8, Tryz.ntmps8
  go_upto_region 1 with fail
  have eU : w.alloc (.cells #[.int .i64 0, .int .i64 0, .int .i64 0, .int .i64 0, .int .i64 0, .int .i64 0, .int .i64 0, .int .i64 0, .bool false, .int .i64 0, .int .i64 0, .int .i64 0, .string ⟨#[]⟩, .string ⟨#[]⟩, .string ⟨#[]⟩, .string ⟨#[]⟩, .int .i64 0, .int .i64 0, .slice none 0 0] 32) = U := hU.symm
  rw [eU]
  have HX := hide hX
  clear hU eU hX
  go_wp2_with (first | (refine wpList_store_mid rfl 32 _ _ rfl w.heap.size 0 (mgc setM (.slice none 0 0)).toArray rfl rfl TH.out (by kernel_rfl) (by kernel_rfl) ?_))
  rw [← HX.out]
  refine bodyPost_ret (results_cell_mid Tryz.results8 _ _ w.heap.size (mgc setM (.slice none 0 0)) _ rfl R.out.1.range Tryz.underlying32 rfl (by kernel_rfl)) rfl ⟨rfl, R.out.2⟩
theorem set_laid : ([staP 2 4 1 5, balP 2 2 0] : List (List Int)).flatten = [4, 41, 16] := by kernel_rfl
/-- Encode, at the one message that every statement asks first. -/
theorem menc_set (w : World) (hKc : Knd w) (hK : Kmd w) :
    Calls Tryz.prog 7 #[.int .i64 2, .int .i64 3, .agg (mgc setM (.slice none 0 0)).toArray] w fun r w' => ∃ u, r = .returned (.tuple #[u, .int .i64 0]) ∧ w'.ownsRow w.heap.size 5 1 u [4, 41, 16].length (([4, 41, 16] : List Int).map (Value.int .u8)) ∧ Below w.heap.size w w' := by
  have hCk : Hid (∀ W, Below w.heap.size w W → Calls Tryz.prog 10 #[.int .i64 2, .int .i64 3, .agg (mgc setM (.slice none 0 0)).toArray] W fun r w' => r = .returned (.int .i64 0) ∧ Below W.heap.size W w') := fun W hW => by
    have := mcheck_any 2 3 setM none 0 0 W (hKc.below hW (Nat.le_refl _)) (hK.below hW (Nat.le_refl _)) (by show (0 : Nat) ≤ _; omega) (by show (0 : Nat) ≤ _; omega) (segI_nil _)
    rwa [set_chk] at this
  have hSO := fun W => shapeOf_any setM none 0 0 W
  rw [← set_laid]
  exact menc_balloted 2 3 4 1 5 2 0 0 0 0 false zeroC 0 none 0 0 w _ _ _ hCk (fun W => hSO W) (fun W => layout2 2 (by decide) W) (fun W h => bytes_balloted2 4 1 5 2 0 W (by omega) (by omega) (by omega) (by omega) (by omega))

set_option maxHeartbeats 8000000 in
set_option maxRecDepth 100000 in
theorem known5_any (a : Nat → Addr) (w : World) (hKc : Knd w) (hK : Kmd w) (he : Errs w a) :
    Calls Tryz.prog 4 #[] w fun e w' => e = .returned (.bool true) ∧ Below w.heap.size w w' := by
  have HK := hide hKc
  have HM := hide hK
  have HE := hide he
  clear hKc hK he
  go_enter Tryz.func4, Tryz.ntmps4
  go_wp2_with fail
  refine (settled5_any _).mono ?_
  rintro e w1 ⟨rfl, hb⟩
  have B1 : Hid (Below w.heap.size w w1) := hb
  have z1 : w.heap.size ≤ w1.heap.size := B1.out.size
  clear hb
  go_wp2_with fail
  refine (menc_set _ (HK.out.below B1.out (Nat.le_refl _)) (HM.out.below B1.out (Nat.le_refl _))).mono ?_
  rintro e w2 ⟨u, rfl, ho, hb⟩
  obtain ⟨sa, cap, rfl, hsrc, hseg⟩ := mown_src ho
  have B2 : Hid (Below w.heap.size w w2) := B1.out.trans (hb.mono (by omega))
  have z2 : w.heap.size ≤ w2.heap.size := B2.out.size
  have SEG := hide hseg
  clear hb ho hsrc hseg
  obtain ⟨Y, hY⟩ : ∃ Y, Hid (Y = w2.alloc (.cells #[.int .u8 4, .int .u8 41, .int .u8 16] 5)) := ⟨_, rfl⟩
  have BY : Hid (Below w2.heap.size w2 Y) := by rw [hY.out]; exact (Below.refl _ _).alloc (Nat.le_refl _) _
  have SY : Hid (Seg Y (some ⟨w2.heap.size, 0, none⟩) 3 [4, 41, 16]) := by rw [hY.out]; exact seg_lit [4, 41, 16] (by unfold maxLen; decide) rfl rfl rfl
  have SY1 : Hid (Seg Y sa 3 [4, 41, 16]) := SEG.out.below BY.out (Nat.le_refl _)
  go_wp2_with (first | (go_at_call 6; refine (num5_any _ _).mono ?_; rintro e w' ⟨rfl, rfl⟩))
  rw [← hY.out]
  refine (same_any sa _ 3 3 _ _ [4, 41, 16] [4, 41, 16] _ SY1.out SY.out).mono ?_
  rintro e w' ⟨rfl, q, rfl⟩
  rw [show sameB [4, 41, 16] [4, 41, 16] = true by decide]
  obtain ⟨w3, h3⟩ : ∃ w3, w3 = Y.drewN q := ⟨_, rfl⟩
  have B3 : Hid (Below w.heap.size w w3) := by
    have h := B2.out.trans (BY.out.mono (by omega))
    rw [h3]; exact ⟨h.1, h.2, h.3, h.4, h.5⟩
  rw [← h3]
  have z3 : w.heap.size ≤ w3.heap.size := B3.out.size
  clear h3 SY SY1 BY hY SEG
  obtain ⟨w4, hY⟩ : ∃ Y, Hid (Y = w3.alloc (.cells #[.int .u8 4, .int .u8 41, .int .u8 16] 5)) := ⟨_, rfl⟩
  have B4 : Hid (Below w.heap.size w w4) := by rw [hY.out]; exact B3.out.alloc (by omega) _
  have SY : Hid (Seg w4 (some ⟨w3.heap.size, 0, none⟩) 3 [4, 41, 16]) := by rw [hY.out]; exact seg_lit [4, 41, 16] (by unfold maxLen; decide) rfl rfl rfl
  have z4 : w.heap.size ≤ w4.heap.size := B4.out.size
  go_wp2_with fail
  rw [← hY.out]
  refine (mdecode_any 2 3 _ 3 3 [4, 41, 16] a _ SY.out (.inr ⟨⟨_, 0, rfl⟩, by omega, by unfold maxLen; decide⟩) (by intro z hz; simp at hz; omega) (HE.out.below B4.out (Nat.le_refl _)) (HK.out.below B4.out (Nat.le_refl _)) (HM.out.below B4.out (Nat.le_refl _))).mono ?_
  rintro e w5 ⟨u, rfl, D, hb⟩
  rw [set_dec] at D ⊢
  obtain ⟨ua, uk, uc, rfl, hI, -⟩ := D
  have S5 : Hid (SegI w5 ua uk setM.dl) := hI
  have B5 : Hid (Below w.heap.size w w5) := B4.out.trans (hb.mono (by omega))
  have z5 : w.heap.size ≤ w5.heap.size := B5.out.size
  clear hb hI hY SY
  obtain ⟨U, hU⟩ : ∃ U, U = w5.alloc (.cells zeroL.toArray 32) := ⟨_, rfl⟩
  have BU : Hid (Below w5.heap.size w5 U) := by rw [hU]; exact (Below.refl _ _).alloc (Nat.le_refl _) _
  have QU : Hid (Blk U w5.heap.size zeroL) := by rw [hU]; exact blk_new w5 32 zeroL
  have TH : Hid (U.there w5.heap.size 0 19) := QU.out.there
  obtain ⟨w6, hX⟩ : ∃ X, X = U.setCells w5.heap.size 0 (mgc setM (.slice ua uk uc)) := ⟨_, rfl⟩
  have RX := hide (mbox_stored (w := w5) QU.out (by rfl) BU.out (Nat.le_refl _) hX)
  have B6 : Hid (Below w.heap.size w w6) := B5.out.trans (RX.out.2.mono (by omega))
  have Q6 : Hid (Blk w6 w5.heap.size (mgc setM (.slice ua uk uc))) := RX.out.1
  have S6 : Hid (SegI w6 ua uk setM.dl) := S5.out.below RX.out.2 (Nat.le_refl _)
  have z6 : w.heap.size ≤ w6.heap.size := B6.out.size
  have HU := hide hU
  have HX := hide hX
  clear hU hX
  have eU : w5.alloc (.cells #[.int .i64 0, .int .i64 0, .int .i64 0, .int .i64 0, .int .i64 0, .int .i64 0, .int .i64 0, .int .i64 0, .bool false, .int .i64 0, .int .i64 0, .int .i64 0, .string ⟨#[]⟩, .string ⟨#[]⟩, .string ⟨#[]⟩, .string ⟨#[]⟩, .int .i64 0, .int .i64 0, .slice none 0 0] 32) = U := HU.out.symm
  go_upto_region 5 with (first | (refine wpList_store_mid rfl 32 _ _ rfl w5.heap.size 0 (mgc setM (.slice ua uk uc)).toArray rfl rfl (by first | exact TH.out | (rw [eU]; exact TH.out)) (by kernel_rfl) (by kernel_rfl) ?_; first | rw [← HX.out] | (rw [eU, ← HX.out])))
  clear eU HU HX TH QU BU RX
  go_wp2_with fail
  refine (settled5_any _).mono ?_
  rintro e w7 ⟨rfl, hb⟩
  have B7 : Hid (Below w.heap.size w w7) := B6.out.trans (hb.mono (by omega))
  have Q7 : Hid (Blk w7 w5.heap.size (mgc setM (.slice ua uk uc))) := Q6.out.on hb
  have S7 : Hid (SegI w7 ua uk setM.dl) := S6.out.below hb (Nat.le_refl _)
  have z7 : w.heap.size ≤ w7.heap.size := B7.out.size
  clear hb
  go_wp2_with fail
  refine (mcheck_any 2 3 setM none 0 0 _ (HK.out.below B7.out (Nat.le_refl _)) (HM.out.below B7.out (Nat.le_refl _)) (by show (0 : Nat) ≤ _; omega) (by show (0 : Nat) ≤ _; omega) (segI_nil _)).mono ?_
  rintro e w8 ⟨rfl, hb⟩
  rw [set_chk]
  have B8 : Hid (Below w.heap.size w w8) := B7.out.trans (hb.mono (by omega))
  have Q8 : Hid (Blk w8 w5.heap.size (mgc setM (.slice ua uk uc))) := Q7.out.on hb
  have S8 : Hid (SegI w8 ua uk setM.dl) := S7.out.below hb (Nat.le_refl _)
  have z8 : w.heap.size ≤ w8.heap.size := B8.out.size
  clear hb
  go_wp2_with fail
  refine (mcheck_any 2 3 tenM none 0 0 _ (HK.out.below B8.out (Nat.le_refl _)) (HM.out.below B8.out (Nat.le_refl _)) (by show (0 : Nat) ≤ _; omega) (by show (0 : Nat) ≤ _; omega) (segI_nil _)).mono ?_
  rintro e X ⟨rfl, hb⟩
  rw [ten_chk]
  have BX : Hid (Below w.heap.size w X) := B8.out.trans (hb.mono (by omega))
  have QX : Hid (Blk X w5.heap.size (mgc setM (.slice ua uk uc))) := Q8.out.on hb
  have SX : Hid (SegI X ua uk setM.dl) := S8.out.below hb (Nat.le_refl _)
  clear hb Q8 Q7 Q6 S8 S7 S6 S5 B1 B2 B3 B4 B5 B6 B7 B8
  go_upto_region 7 with fail
  have S0 := belX X
  refine wp_region_held_drew (S := (fun w' => Below X.heap.size X w')) (by kernel_rfl) S0 (fun hHeld => ?_)
  refine tk 0 ?_
  refine wpAnyH_ready (rs := [1]) (by kernel_rfl) (by simp) ?_
  refine AllReadyH.cons rfl (fun K hK => ?_) AllReadyH.nil
  rw [if_pos (by rfl)]
  go_wp2_with fail
  refine (num5_any _ _).mono ?_
  rintro e V1 ⟨rfl, rfl⟩
  refine hK.out _ _ S0 (fun hHeld => ?_)
  clear hK K
  try simp only [Act.put, List.getElem_toArray, List.getElem_cons_succ, List.getElem_cons_zero, List.setIfInBounds_toArray, List.set_cons_zero, List.set_cons_succ]
  refine tk 2 ?_
  refine tk 3 ?_
  refine tq 4 rfl (yieldsIf_load_mid (by rfl) 32 _ rfl w5.heap.size 0 rfl (mgc setM (.slice ua uk uc)) _ (fun _ h => QX.out.sub h 0 (mgc setM (.slice ua uk uc)) rfl) Tryz.underlying32 rfl (by kernel_rfl)) ?_
  refine wpAnyH_ready (rs := [5]) (by kernel_rfl) (by simp) ?_
  refine AllReadyH.cons rfl (fun K hK => ?_) AllReadyH.nil
  rw [if_pos (by rfl)]
  go_wp2_with fail
  refine (settled5_any _).mono ?_
  rintro e V5 ⟨rfl, hb5⟩
  have P5 := S0.trans (hb5.mono S0.size)
  clear hb5
  refine hK.out _ _ P5 (fun hHeld => ?_)
  clear hK K
  try simp only [Act.put, List.getElem_toArray, List.getElem_cons_succ, List.getElem_cons_zero, List.setIfInBounds_toArray, List.set_cons_zero, List.set_cons_succ]
  refine wpAnyH_ready (rs := [6]) (by kernel_rfl) (by simp) ?_
  refine AllReadyH.cons rfl (fun K hK => ?_) AllReadyH.nil
  rw [if_pos (by rfl)]
  go_wp2_with fail
  refine (sameMsg_same setM ua none uk uc 0 0 _ (SX.out.below P5 (Nat.le_refl _)) (segI_nil _)).mono ?_
  rintro e V6 ⟨rfl, hb6⟩
  have P6 := P5.trans (hb6.mono P5.size)
  clear hb6
  refine hK.out _ _ P6 (fun hHeld => ?_)
  clear hK K
  try simp only [Act.put, List.getElem_toArray, List.getElem_cons_succ, List.getElem_cons_zero, List.setIfInBounds_toArray, List.set_cons_zero, List.set_cons_succ]
  refine tk 7 ?_
  refine tk 8 ?_
  refine tk 9 ?_
  refine wpAnyH_ready (rs := [10]) (by kernel_rfl) (by simp) ?_
  refine AllReadyH.cons rfl (fun K hK => ?_) AllReadyH.nil
  rw [if_pos (by rfl)]
  go_wp2_with fail
  refine (num5_any _ _).mono ?_
  rintro e V10 ⟨rfl, rfl⟩
  refine hK.out _ _ P6 (fun hHeld => ?_)
  clear hK K
  try simp only [Act.put, List.getElem_toArray, List.getElem_cons_succ, List.getElem_cons_zero, List.setIfInBounds_toArray, List.set_cons_zero, List.set_cons_succ]
  refine tk 11 ?_
  refine tk 12 ?_
  refine tk 13 ?_
  refine tk 14 ?_
  refine wpAnyH_ready (rs := [15]) (by kernel_rfl) (by simp) ?_
  refine AllReadyH.cons rfl (fun K hK => ?_) AllReadyH.nil
  rw [if_pos (by rfl)]
  go_wp2_with fail
  refine (num5_any _ _).mono ?_
  rintro e V15 ⟨rfl, rfl⟩
  refine hK.out _ _ P6 (fun hHeld => ?_)
  clear hK K
  try simp only [Act.put, List.getElem_toArray, List.getElem_cons_succ, List.getElem_cons_zero, List.setIfInBounds_toArray, List.set_cons_zero, List.set_cons_succ]
  refine tk 16 ?_
  refine tk 17 ?_
  refine tk 18 ?_
  refine wpAnyH_done (by kernel_rfl) ?_ _
  go_wp2
  go_ret
  exact ⟨rfl, (BX.out.trans (P6.mono BX.out.size))⟩
end Go.Proofs.YtbdkelffncmkhaaGreatDoor
