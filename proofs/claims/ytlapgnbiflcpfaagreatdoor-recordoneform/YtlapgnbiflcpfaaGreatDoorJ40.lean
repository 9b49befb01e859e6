/- Texts of the proof, joined. -/
import Derived.Test.YtlapgnbiflcpfaaGreatDoorJ36
import Derived.Test.YtlapgnbiflcpfaaGreatDoorJ37
import Derived.Test.YtlapgnbiflcpfaaGreatDoorJ39
import Derived.Test.YtlapgnbiflcpfaaGreatDoorRows
import Derived.Test.YtlapgnbiflcpfaaGreatDoorJ02
import Derived.WalkKit
import Derived.Deep.QuietTactic
import Derived.BigQuiet
import Derived.Test.YtlapgnbiflcpfaaGreatDoorJ03
import Derived.Deep.Cut
import Derived.Test.YtlapgnbiflcpfaaGreatDoorJ01
import Derived.ProofKit
import Derived.OpenShut
import Derived.ShutString
import Derived.ChangeOld
import Derived.Below
import Derived.SizedLaws
import Derived.Test.YtlapgnbiflcpfaaGreatDoorJ23
/- How long a valid record's bytes are; that they are bytes. -/
namespace Go.Proofs.YtlapgnbiflcpfaaGreatDoor
open Go.RowKit Go.Wire1

theorem wrF_small {r : Rc} {x : Nat} (hx : Ltr x) (h9 : x ≠ 99) (h : fitF r x) : (wrF r x).length ≤ 100 := by
  have e10 : ∀ y : Nat, y < 18446744073709551616 → (enc y).length ≤ 10 := fun y hy => (enc_le y hy).2
  rcases hx with rfl | rfl | rfl | rfl | rfl | rfl | rfl | rfl
  · obtain ⟨h1, h2⟩ := h; have := e10 r.id.toNat (by omega); exact Nat.le_trans this (by omega)
  · obtain ⟨h1, h2⟩ := h; have := e10 r.n.toNat (by omega); exact Nat.le_trans this (by omega)
  · obtain ⟨h1, h2, h3, h4⟩ := h; have := e10 (8 * r.num + r.row).toNat (by omega); exact Nat.le_trans this (by omega)
  · obtain ⟨h1, h2, h3, h4⟩ := h; have := e10 (8 * r.round + r.who).toNat (by omega); exact Nat.le_trans this (by omega)
  · show 1 ≤ _; omega
  · exact absurd rfl h9
  · obtain ⟨h1, h2⟩ := h
    show (if noopR r then [] else enc r.seq.toNat).length ≤ _
    split
    · exact Nat.zero_le _
    · have := e10 r.seq.toNat (by omega); omega
  · show (if noopR r then [] else packL 2 r.deps).length ≤ _
    have hv : isVec r.deps = true := h
    split
    · exact Nat.zero_le _
    · rw [← packR_vec (.inr rfl) hv]
      exact (packR_pos (.inr rfl) hv).2
theorem row_ltr {k x : Nat} (hk : k < 6) (hx : x ∈ rowL.getD k []) : Ltr x := by
  rcases (by omega : k = 0 ∨ k = 1 ∨ k = 2 ∨ k = 3 ∨ k = 4 ∨ k = 5) with rfl | rfl | rfl | rfl | rfl | rfl
  · exact absurd hx List.not_mem_nil
  all_goals
    simp only [rowL, List.getD_eq_getElem?_getD, List.getElem?_cons_zero, List.getElem?_cons_succ, Option.getD_some, List.mem_cons, List.not_mem_nil, or_false] at hx
    unfold Ltr
    omega
theorem recB_len {n : Int} {r : Rc} (h : chkR n r = 0) : 0 < (recB r).length ∧ (recB r).length < 262144 := by
  obtain ⟨-, hk, -, -⟩ := chkR_zero h
  have hfit := fit_of_chk h
  obtain ⟨j, hj, hj6⟩ := kindR_nat hk
  have er : rowR r.kind = rowL.getD j [] := by rw [hj]; rfl
  rw [er] at hfit
  have hs : ∀ x ∈ rowL.getD j [], x ≠ 99 → (wrF r x).length ≤ 100 := fun x hx h9 => wrF_small (row_ltr hj6 hx) h9 (hfit x hx)
  have hc : ∀ x ∈ rowL.getD j [], (wrF r x).length ≤ 131281 := fun x hx => wrF_le (row_ltr hj6 hx) (hfit x hx)
  unfold recB
  rw [er, List.length_cons]
  refine ⟨by omega, ?_⟩
  rcases (by omega : j = 0 ∨ j = 1 ∨ j = 2 ∨ j = 3 ∨ j = 4 ∨ j = 5) with rfl | rfl | rfl | rfl | rfl | rfl
  · show 0 + 1 < _; omega
  all_goals
    simp only [rowL, List.getD_eq_getElem?_getD, List.getElem?_cons_zero, List.getElem?_cons_succ, Option.getD_some, List.mem_cons, List.not_mem_nil, or_false, forall_eq_or_imp, forall_eq] at hs hc
    simp only [rowL, List.getD_eq_getElem?_getD, List.getElem?_cons_zero, List.getElem?_cons_succ, Option.getD_some, List.flatMap_cons, List.flatMap_nil, List.length_append, List.length_nil]
    omega
theorem byt_recB {n : Int} {r : Rc} (h : chkR n r = 0) : Byt (recB r) := by
  obtain ⟨-, hk, -, -⟩ := chkR_zero h
  have hfit := fit_of_chk h
  obtain ⟨j, hj, hj6⟩ := kindR_nat hk
  have er : rowR r.kind = rowL.getD j [] := by rw [hj]; rfl
  intro z hz
  unfold recB at hz
  rcases List.mem_cons.1 hz with rfl | hz
  · omega
  · obtain ⟨x, hx, hz⟩ := List.mem_flatMap.1 hz
    have hf := hfit x hx
    rw [er] at hx
    rcases row_ltr hj6 hx with rfl | rfl | rfl | rfl | rfl | rfl | rfl | rfl
    · exact byt_enc _ z hz
    · exact byt_enc _ z hz
    · exact byt_enc _ z hz
    · exact byt_enc _ z hz
    · have : z = if r.same then 1 else 0 := List.mem_singleton.1 hz
      rw [this]
      split <;> omega
    · have hc : chk 2 r.c = 0 := hf
      exact byt_encC (sound_of hc).k0 (sound_of hc).k8 z hz
    · have hz : z ∈ (if noopR r then [] else enc r.seq.toNat) := hz
      split at hz
      · exact absurd hz List.not_mem_nil
      · exact byt_enc _ z hz
    · have hz : z ∈ (if noopR r then [] else packL 2 r.deps) := hz
      have hv : isVec r.deps = true := hf
      split at hz
      · exact absurd hz List.not_mem_nil
      · rw [← packR_vec (.inr rfl) hv] at hz
        exact byt_packR _ _ z hz
end Go.Proofs.YtlapgnbiflcpfaaGreatDoor
/- The contract of SameInts: two lists of ints in memory, alike or not; it only reads. -/
namespace Go.Proofs.YtlapgnbiflcpfaaGreatDoor
open Go.RowKit Go.Wire1

set_option maxHeartbeats 400000 in
set_option maxRecDepth 100000 in
theorem sameI_any (a b : Option Addr) (n m cap cap' : Nat) (xs ys : List Int) (w : World) (ha : SegI w a n xs) (hb : SegI w b m ys) :
    Calls Tryz.prog 26 #[.slice a n cap, .slice b m cap'] w fun e w' => e = .returned (.bool (sameB xs ys)) ∧ ∃ q, w' = w.drewN q := by
  obtain ⟨hn, hn', ha, -⟩ := ha
  obtain ⟨hm, hm', hb, -⟩ := hb
  unfold maxLen at hn' hm'
  by_cases hnm : n = m
  · subst hnm
    have HN : Hid (xs.length = n) := hn
    have HM : Hid (ys.length = n) := hm
    clear hn hm
    go_enter Tryz.func26, Tryz.ntmps26
    go_wp2
    go_loopw [5] (fun i wr => ∃ k q : Nat, i = .int .i64 (k : Int) ∧ k ≤ n ∧ Hid (xs.take k = ys.take k) ∧ wr = w.drewN q) (fun i _ => n - (intOf i).toNat)
    case atStart => exact ⟨0, 0, rfl, Nat.zero_le _, rfl, rfl⟩
    case round =>
      obtain ⟨k, q, rfl, hk, HT, rfl⟩ := hrel
      by_cases hlt : k < n
      · obtain ⟨ba, oa, rfl, hca⟩ := ha (by omega)
        obtain ⟨bb, ob, rfl, hcb⟩ := hb (by omega)
        have ca : w.cell? ⟨ba, oa + k, none⟩ = some (.int .i64 (xs.getD k 0)) := hca k hlt
        have cb : w.cell? ⟨bb, ob + k, none⟩ = some (.int .i64 (ys.getD k 0)) := hcb k hlt
        clear ha hb hca hcb
        by_cases he : xs.getD k 0 = ys.getD k 0
        · have HT' : Hid (xs.take (k + 1) = ys.take (k + 1)) := take_step (by have := HN.out; omega) (by have := HM.out; omega) HT.out he
          rw [← he] at cb
          clear he
          generalize xs.getD k 0 = c at ca cb
          go_wp2
          go_quiet (fail)
          go_wp2
          go_roundw
          case rel => exact ⟨k + 1, _, by go_num, by omega, HT', rfl⟩
          case measure => simp [intOf]; omega
        · have HS : Hid (sameB xs ys = false) := same_no he
          have hb' : (xs.getD k 0 != ys.getD k 0) = true := by simpa using he
          clear he
          generalize xs.getD k 0 = c at ca hb'
          generalize ys.getD k 0 = d at cb hb'
          go_wp2
          go_quiet (fail)
          go_wp2
          go_ret
          exact ⟨by rw [HS.out]; rfl, _, by rw [World.drewN_drewN]⟩
      · have HS : Hid (sameB xs ys = true) := same_yes (by have := HT.out; rwa [List.take_of_length_le (by have := HN.out; omega), List.take_of_length_le (by have := HM.out; omega)] at this)
        go_wp2
        go_ret
        exact ⟨by rw [HS.out]; rfl, _, rfl⟩
  · have HS : Hid (sameB xs ys = false) := same_len (by omega)
    have hne : ((n : Int) != (m : Int)) = true := by rw [bne_iff_ne]; omega
    go_enter Tryz.func26, Tryz.ntmps26
    go_wp2
    go_ret
    exact ⟨by rw [HS.out]; rfl, 0, rfl⟩
end Go.Proofs.YtlapgnbiflcpfaaGreatDoor
/- The contract of mootref.SameRecord at two records that are alike. -/
namespace Go.Proofs.YtlapgnbiflcpfaaGreatDoor
open Go.RowKit Go.Wire1

theorem rsameC_self (c : Cm) : sameC c c = true := by simp [sameC, teq]
theorem sameB_self (l : List Int) : sameB l l = true := by
  unfold sameB
  simp
set_option maxHeartbeats 1000000 in
set_option maxRecDepth 100000 in
theorem sameInst_same (x y : Int) (w : World) : Calls Tryz.prog 23 #[.agg #[.int .i64 x, .int .i64 y], .agg #[.int .i64 x, .int .i64 y]] w fun e w' => e = .returned (.bool true) ∧ Below w.heap.size w w' := by
  have BB : ∀ o p, Hid (Below w.heap.size w ((w.alloc o).alloc p)) := fun o p => ((Below.refl _ w).alloc (Nat.le_refl _) _).alloc (by simp) _
  go_enter Tryz.func23, Tryz.ntmps23
  go_wp2
  go_ret
  exact ⟨rfl, (BB _ _).out⟩
set_option maxHeartbeats 1000000 in
set_option maxRecDepth 100000 in
theorem sameBallot_same (x y : Int) (w : World) : Calls Tryz.prog 24 #[.agg #[.int .i64 x, .int .i64 y], .agg #[.int .i64 x, .int .i64 y]] w fun e w' => e = .returned (.bool true) ∧ Below w.heap.size w w' := by
  have BB : ∀ o p, Hid (Below w.heap.size w ((w.alloc o).alloc p)) := fun o p => ((Below.refl _ w).alloc (Nat.le_refl _) _).alloc (by simp) _
  go_enter Tryz.func24, Tryz.ntmps24
  go_wp2
  go_ret
  exact ⟨rfl, (BB _ _).out⟩
set_option maxHeartbeats 2000000 in
set_option maxRecDepth 100000 in
theorem sameRec_lay (r : Rc) (a : Option Addr) (d c : Nat) (w : World) (h1 : SegI w r.da r.dn r.deps) (h2 : SegI w a d r.deps) :
    Calls Tryz.prog 13 #[.agg (rcs r).toArray, .agg (rcs ({ r with da := a, dn := d, dc := c })).toArray] w fun e w' => e = .returned (.bool true) ∧ Below w.heap.size w w' := by
  obtain ⟨V, hV⟩ : ∃ V, V = (w.alloc (.cells (rcs r).toArray 30)).alloc (.cells (rcs ({ r with da := a, dn := d, dc := c })).toArray 30) := ⟨_, rfl⟩
  have BV : Hid (Below w.heap.size w V) := by rw [hV]; exact ((Below.refl _ w).alloc (Nat.le_refl _) _).alloc (by simp) _
  have QV : Hid (Blk V w.heap.size (rcs r) ∧ Blk V (w.heap.size + 1) (rcs ({ r with da := a, dn := d, dc := c }))) := by
    rw [hV]
    refine ⟨(blk_new w 30 (rcs r)).on ((Below.refl _ _).alloc (Nat.le_refl _) _), ?_⟩
    have := blk_new (w.alloc (.cells (rcs r).toArray 30)) 30 (rcs ({ r with da := a, dn := d, dc := c }))
    rwa [show (w.alloc (.cells (rcs r).toArray 30)).heap.size = w.heap.size + 1 by simp] at this
  have H1 := hide h1
  have H2 := hide h2
  clear h1 h2
  have Vp0 : V.cell? ⟨w.heap.size, 0, none⟩ = some (.int .i64 r.kind) := QV.out.1.cell 0 _ rfl
  have Vq0 : V.cell? ⟨w.heap.size + 1, 0, none⟩ = some (.int .i64 r.kind) := QV.out.2.cell 0 _ rfl
  have Vp5 : V.cell? ⟨w.heap.size, 5, none⟩ = some (.bool r.same) := QV.out.1.cell 5 _ rfl
  have Vq5 : V.cell? ⟨w.heap.size + 1, 5, none⟩ = some (.bool r.same) := QV.out.2.cell 5 _ rfl
  have Vp14 : V.cell? ⟨w.heap.size, 14, none⟩ = some (.int .i64 r.seq) := QV.out.1.cell 14 _ rfl
  have Vq14 : V.cell? ⟨w.heap.size + 1, 14, none⟩ = some (.int .i64 r.seq) := QV.out.2.cell 14 _ rfl
  have Vp16 : V.cell? ⟨w.heap.size, 16, none⟩ = some (.int .i64 r.id) := QV.out.1.cell 16 _ rfl
  have Vq16 : V.cell? ⟨w.heap.size + 1, 16, none⟩ = some (.int .i64 r.id) := QV.out.2.cell 16 _ rfl
  have Vp17 : V.cell? ⟨w.heap.size, 17, none⟩ = some (.int .i64 r.n) := QV.out.1.cell 17 _ rfl
  have Vq17 : V.cell? ⟨w.heap.size + 1, 17, none⟩ = some (.int .i64 r.n) := QV.out.2.cell 17 _ rfl
  have Vp1 : V.cell? ⟨w.heap.size, 1, none⟩ = some (.int .i64 r.row) := QV.out.1.cell 1 _ rfl
  have Vq1 : V.cell? ⟨w.heap.size + 1, 1, none⟩ = some (.int .i64 r.row) := QV.out.2.cell 1 _ rfl
  have Vp2 : V.cell? ⟨w.heap.size, 2, none⟩ = some (.int .i64 r.num) := QV.out.1.cell 2 _ rfl
  have Vq2 : V.cell? ⟨w.heap.size + 1, 2, none⟩ = some (.int .i64 r.num) := QV.out.2.cell 2 _ rfl
  go_enter Tryz.func13, Tryz.ntmps13
  go_upto_region 1 with fail
  rw [← hV]
  clear hV
  go_wp2_with fail
  refine (sameInst_same r.row r.num _).mono ?_
  rintro e W ⟨rfl, h⟩
  have BW : Hid (Below w.heap.size w W) := BV.out.trans (h.mono BV.out.size)
  have QW : Hid (Blk W w.heap.size (rcs r) ∧ Blk W (w.heap.size + 1) (rcs ({ r with da := a, dn := d, dc := c }))) := ⟨QV.out.1.on h, QV.out.2.on h⟩
  clear h
  have Wp3 : W.cell? ⟨w.heap.size, 3, none⟩ = some (.int .i64 r.round) := QW.out.1.cell 3 _ rfl
  have Wq3 : W.cell? ⟨w.heap.size + 1, 3, none⟩ = some (.int .i64 r.round) := QW.out.2.cell 3 _ rfl
  have Wp4 : W.cell? ⟨w.heap.size, 4, none⟩ = some (.int .i64 r.who) := QW.out.1.cell 4 _ rfl
  have Wq4 : W.cell? ⟨w.heap.size + 1, 4, none⟩ = some (.int .i64 r.who) := QW.out.2.cell 4 _ rfl
  go_wp2_with fail
  refine (sameBallot_same r.round r.who _).mono ?_
  rintro e X ⟨rfl, h⟩
  have BX : Hid (Below w.heap.size w X) := BW.out.trans (h.mono BW.out.size)
  have QX : Hid (Blk X w.heap.size (rcs r) ∧ Blk X (w.heap.size + 1) (rcs ({ r with da := a, dn := d, dc := c }))) := ⟨QW.out.1.on h, QW.out.2.on h⟩
  clear h
  have Xp6 : X.cell? ⟨w.heap.size, 6, none⟩ = some (.int .i64 r.c.kind) := QX.out.1.cell 6 _ rfl
  have Xq6 : X.cell? ⟨w.heap.size + 1, 6, none⟩ = some (.int .i64 r.c.kind) := QX.out.2.cell 6 _ rfl
  have Xp7 : X.cell? ⟨w.heap.size, 7, none⟩ = some (.int .i64 r.c.client) := QX.out.1.cell 7 _ rfl
  have Xq7 : X.cell? ⟨w.heap.size + 1, 7, none⟩ = some (.int .i64 r.c.client) := QX.out.2.cell 7 _ rfl
  have Xp8 : X.cell? ⟨w.heap.size, 8, none⟩ = some (.int .i64 r.c.req) := QX.out.1.cell 8 _ rfl
  have Xq8 : X.cell? ⟨w.heap.size + 1, 8, none⟩ = some (.int .i64 r.c.req) := QX.out.2.cell 8 _ rfl
  have Xp9 : X.cell? ⟨w.heap.size, 9, none⟩ = some (.string r.c.key) := QX.out.1.cell 9 _ rfl
  have Xq9 : X.cell? ⟨w.heap.size + 1, 9, none⟩ = some (.string r.c.key) := QX.out.2.cell 9 _ rfl
  have Xp10 : X.cell? ⟨w.heap.size, 10, none⟩ = some (.string r.c.key2) := QX.out.1.cell 10 _ rfl
  have Xq10 : X.cell? ⟨w.heap.size + 1, 10, none⟩ = some (.string r.c.key2) := QX.out.2.cell 10 _ rfl
  have Xp11 : X.cell? ⟨w.heap.size, 11, none⟩ = some (.string r.c.val) := QX.out.1.cell 11 _ rfl
  have Xq11 : X.cell? ⟨w.heap.size + 1, 11, none⟩ = some (.string r.c.val) := QX.out.2.cell 11 _ rfl
  have Xp12 : X.cell? ⟨w.heap.size, 12, none⟩ = some (.string r.c.old) := QX.out.1.cell 12 _ rfl
  have Xq12 : X.cell? ⟨w.heap.size + 1, 12, none⟩ = some (.string r.c.old) := QX.out.2.cell 12 _ rfl
  have Xp13 : X.cell? ⟨w.heap.size, 13, none⟩ = some (.int .i64 r.c.n) := QX.out.1.cell 13 _ rfl
  have Xq13 : X.cell? ⟨w.heap.size + 1, 13, none⟩ = some (.int .i64 r.c.n) := QX.out.2.cell 13 _ rfl
  go_wp2_with fail
  refine (sameCmd_any r.c r.c _).mono ?_
  rintro e Y ⟨rfl, h⟩
  rw [rsameC_self]
  have BY : Hid (Below w.heap.size w Y) := BX.out.trans (h.mono BX.out.size)
  have QY : Hid (Blk Y w.heap.size (rcs r) ∧ Blk Y (w.heap.size + 1) (rcs ({ r with da := a, dn := d, dc := c }))) := ⟨QX.out.1.on h, QX.out.2.on h⟩
  clear h
  have Yp15 : Y.cell? ⟨w.heap.size, 15, none⟩ = some (.slice r.da r.dn r.dc) := QY.out.1.cell 15 _ rfl
  have Yq15 : Y.cell? ⟨w.heap.size + 1, 15, none⟩ = some (.slice a d c) := QY.out.2.cell 15 _ rfl
  go_wp2_with fail
  refine (sameI_any _ _ _ _ _ _ _ _ _ (H1.out.below BY.out (Nat.le_refl _)) (H2.out.below BY.out (Nat.le_refl _))).mono ?_
  rintro e Z ⟨rfl, q, rfl⟩
  rw [sameB_self]
  go_wp2
  go_ret
  exact ⟨rfl, ⟨BY.out.1, BY.out.2, BY.out.3, BY.out.4, BY.out.5⟩⟩
end Go.Proofs.YtlapgnbiflcpfaaGreatDoor
/- How an argument that is a list of bytes is opened for the walks. -/
namespace Go.Proofs.YtlapgnbiflcpfaaGreatDoor
open Go.ChangeShapes Go.WideShapes Go.ChangeAt Go.RowKit Go.Wire1

theorem own : ownKnob Tryz.prog.godebug = none := by kernel_rfl
theorem bytes5 : Tryz.prog.bytesOf 5 = 1 := by kernel_rfl
theorem cells5 : Tryz.prog.cellsOf 5 = 1 := by kernel_rfl

theorem byt_wf {zs : List Int} (h : ∀ n ∈ zs, (Lit.int .u8 n).wf = true) : Byt zs := fun z hz => by have := bounds_u8 (h z hz); omega

/-- A list of bytes that came in: what the walks want of it, and that its length is its datum's. -/
theorem open_bytes {H : Type} {enc : TypeId × Value → H} {W : World} {fuel : Nat} {a : Option Addr} {len cap : Nat} {x : DataW H × List MemPlace}
    (h : DataW.trod enc Tryz.prog W 0 (fun _ => true) true fuel 31 [.slice a len cap] = some x) :
    ∃ l, Seg W a len l ∧ Byt l ∧ len ≤ cap ∧ ((x.1 = .nil ∧ len = 0 ∧ cap = 0) ∨ ∃ elems spare, x.1 = .slice elems spare ∧ elems.length = len ∧ elems.length + spare.length = cap) := by
  rcases open_ints Tryz.underlying31 Tryz.underlying5 cells5 h with ⟨hcs, hx⟩ | ⟨b, len', cap', zs, hcs, _, hl, hm, hz, hx, hcell, hwz⟩
  · simp only [List.cons.injEq, Value.slice.injEq, and_true] at hcs
    obtain ⟨rfl, rfl, rfl⟩ := hcs
    exact ⟨[], ⟨rfl, by unfold maxLen; omega, fun h => by omega⟩, (fun z hz => by cases hz), Nat.le_refl _, .inl ⟨by rw [hx], rfl, rfl⟩⟩
  · simp only [List.cons.injEq, Value.slice.injEq, and_true] at hcs
    obtain ⟨rfl, rfl, rfl⟩ := hcs
    simp only [if_true] at hz
    refine ⟨zs.take len, ⟨by rw [List.length_take]; omega, by omega, fun hn => ?_⟩, byt_take (byt_wf hwz) _, hl, .inr ⟨_, _, by rw [hx], by simp [lits]; omega, by simp [lits]; omega⟩⟩
    obtain ⟨bb, off, spot⟩ := b
    have hc0 := hcell 0 (by omega)
    have hspot : spot = none := by simpa [Addr.add] using World.cell?_spot hc0
    subst hspot
    refine ⟨bb, off, rfl, fun j hj => ?_⟩
    have := hcell j (by omega)
    rw [add_at] at this
    rw [this]
    simp [hj]

end Go.Proofs.YtlapgnbiflcpfaaGreatDoor
/- What is known of the place of a list of bytes that came in. -/
namespace Go.Proofs.YtlapgnbiflcpfaaGreatDoor
open Go.ChangeShapes Go.WideShapes Go.ChangeAt Go.RowKit Go.Wire1

theorem src_of {H : Type} {enc : TypeId × Value → H} {W : World} {fuel : Nat} {a : Option Addr} {len cap : Nat} {x : DataW H × List MemPlace}
    (h : DataW.trod enc Tryz.prog W 0 (fun _ => true) true fuel 31 [.slice a len cap] = some x) : Src a len cap := by
  rcases open_ints Tryz.underlying31 Tryz.underlying5 cells5 h with ⟨hcs, hx⟩ | ⟨b, len', cap', zs, hcs, _, hl, hm, hz, hx, hcell, hwz⟩
  · simp only [List.cons.injEq, Value.slice.injEq, and_true] at hcs
    exact .inl ⟨hcs.2.1, hcs.2.2⟩
  · simp only [List.cons.injEq, Value.slice.injEq, and_true] at hcs
    obtain ⟨rfl, rfl, rfl⟩ := hcs
    simp only [if_true] at hz
    by_cases h0 : cap = 0
    · exact .inl ⟨by omega, h0⟩
    · obtain ⟨bb, off, spot⟩ := b
      have hc0 := hcell 0 (by omega)
      have hspot : spot = none := by simpa [Addr.add] using World.cell?_spot hc0
      subst hspot
      exact .inr ⟨⟨bb, off, rfl⟩, hl, hm⟩
end Go.Proofs.YtlapgnbiflcpfaaGreatDoor
