/- The contract of the statements' own accepts. -/
import Derived.Test.YtpbbbbmnboeffaaQPrep
import Derived.Test.YtpbbbbmnboeffaaQSame
namespace Go.Proofs.Ytpbbbbmnboeffaa
open Go.RowKit Go.Wire1

def pickV (vs : List Vt) (ids : List Int) : List Vt := ids.map fun i => vs.getD i.toNat vZ
theorem pickV_len (vs : List Vt) (ids : List Int) : (pickV vs ids).length = ids.length := by simp [pickV]
theorem pickV_snoc {vs : List Vt} {ids : List Int} {q x : Nat} {v : Vt} (h : ids[q]? = some (x : Int)) (hv : vs[x]? = some v) : pickV vs (ids.take (q + 1)) = pickV vs (ids.take q) ++ [v] := by
  unfold pickV
  rw [List.take_add_one, h, List.map_append]
  simp [List.getD, hv]
theorem pickV_mem {vs : List Vt} {ids : List Int} (h : ∀ x ∈ ids, 0 ≤ x ∧ x < (vs.length : Int)) : ∀ v ∈ pickV vs ids, v ∈ vs := by
  intro v hv
  unfold pickV at hv
  obtain ⟨i, hi, rfl⟩ := List.mem_map.1 hv
  have := h i hi
  rw [List.getD, List.getElem?_eq_getElem (by omega)]
  exact List.getElem_mem _
theorem wpList_buildQ {P : Program} {ops : Array Oper} {rest : List Oper} {op : Oper} {a : Act} {w : World} {Q : Exit → Act → World → Prop} (hgd : op.guard = none) (ty : TypeId) (parts : List (Nat × Operand)) (ho : op.op = .build ty parts.toArray)
    (vs : List (Nat × Value)) (hv : (parts.map fun p => (p.1, a.eval p.2)) = vs) (cells : Array Value) (hb : P.built ty vs = some cells) (h : wpList P ops Q rest (a.put op.dst (.agg cells)) w) : wpList P ops Q (op :: rest) a w :=
  wpList_plain hgd fun _ hK => by
    unfold Oper.wp execOp
    have e : (parts.toArray.map fun (x : Nat × Operand) => match x with | (i, x) => (i, a.eval x)) = vs.toArray := by rw [← hv]; simp
    simp only [ho]
    rw [e]
    simp only [Sem.run_bind, Sem.run_pure, Result.andThen_ok, run_build w ty vs.toArray cells (by simpa using hb)]
    exact hK _ _ h
theorem built_plan3 (k : Int) (c : Cm) (seq : Int) (a : Option Addr) (n cap : Nat) : Try.prog.built 45 [(0, .int .i64 k), (1, .agg (ccs c).toArray), (2, .int .i64 seq), (3, .slice a n cap)] = some (pcs k c seq a n cap).toArray := by kernel_rfl
set_option maxHeartbeats 4000000 in
set_option maxRecDepth 100000 in
theorem accepts_any (n row : Int) (va : Option Addr) (N vc : Nat) (vs : List Vt) (ia : Option Addr) (M ic : Nat) (ids : List Int) (c : Cm) (seq : Int) (a : Option Addr) (k cap : Nat) (l : List Int) (w : World) (hr : RowS w 15 va N (vs.map vcs)) (hv : ∀ v ∈ vs, Vok w v) (hi : SegI w ia M ids) (hin : ∀ x ∈ ids, 0 ≤ x ∧ x < (N : Int)) (hM : M ≤ 7) (hs : SegI w a k l)
    (hb : -9223372036854775808 ≤ row ∧ row ≤ 9223372036854775807) (hp : planQ n row (pickV vs ids) = (2, c, seq, l)) :
    Calls Try.prog 12 #[.int .i64 n, .int .i64 row, .slice va N vc, .slice ia M ic, .agg (ccs c).toArray, .agg #[.int .i64 seq, .slice a k cap]] w fun e w' => e = .returned (.bool true) ∧ Below w.heap.size w w' := by
  obtain ⟨i0, hii, hz0, hz1, hz2⟩ := info_parts infoVQ
  have hvl : vs.length = N := by have := hr.len; rwa [List.length_map] at this
  obtain ⟨U, hU⟩ : ∃ U, U = (w.alloc (.cells (ccs c).toArray 25)).alloc (.cells #[.int .i64 seq, .slice a k cap] 28) := ⟨_, rfl⟩
  have BU : Hid (Below w.heap.size w U) := by rw [hU]; exact ((Below.refl _ w).alloc (Nat.le_refl _) _).alloc (by simp) _
  have QA : Hid (Blk U w.heap.size (ccs c)) := by rw [hU]; exact (blk_new w 25 (ccs c)).on ((Below.refl _ _).alloc (Nat.le_refl _) _)
  have QB : Hid (Blk U (w.heap.size + 1) [.int .i64 seq, .slice a k cap]) := by
    have := blk_new (w.alloc (.cells (ccs c).toArray 25)) 28 [.int .i64 seq, .slice a k cap]
    rw [World.size_alloc] at this
    rw [hU]; exact this
  have HR := hide (hr.below BU.out (Nat.le_refl _) (by decide))
  have HV : Hid (∀ v ∈ vs, Vok U v) := fun v h => (hv v h).below BU.out (Nat.le_refl _)
  have HI := hide (hi.below BU.out (Nat.le_refl _))
  have HS := hide (hs.below BU.out (Nat.le_refl _))
  have HIN := hide hin
  have HVL := hide hvl
  have HIL : Hid (ids.length = M) := hi.1
  have HPL := hide hp
  clear hr hv hi hin hs hp hvl
  go_enter Try.func12, Try.ntmps12
  go_upto_region 1 with fail
  rw [← hU]
  clear hU
  go_wp2_with fail
  go_loopw [13, 14] (fun x i wr => ∃ q : Nat, i = .int .i64 (q : Int) ∧ q ≤ M ∧ Hid (wr.ownsRow U.heap.size 34 15 x (pickV vs (ids.take q)).length (((pickV vs (ids.take q)).map vcs).flatten)) ∧ Hid (Below U.heap.size U wr)) (fun _ i _ => M - (intOf i).toNat)
  case atStart => exact ⟨0, rfl, Nat.zero_le _, World.ownsRow_nil _ _ _ _, Below.refl _ _⟩
  case round =>
    obtain ⟨q, rfl, hq, HO, HB⟩ := hrel
    by_cases hlt : q < M
    · obtain ⟨ib, io, rfl, hic⟩ := (HI.out.below HB.out (Nat.le_refl _)).2.2.1 (by omega)
      have cx := hic q hlt
      have hm : ids.getD q 0 ∈ ids := by rw [List.getD, List.getElem?_eq_getElem (by have := HIL.out; omega)]; exact List.getElem_mem _
      have hxi : ids[q]? = some (ids.getD q 0) := by rw [List.getD, List.getElem?_eq_getElem (by have := HIL.out; omega)]; rfl
      have hxr := HIN.out _ hm
      clear hic hm
      obtain ⟨x, hx⟩ : ∃ x : Nat, ids.getD q 0 = (x : Int) := ⟨(ids.getD q 0).toNat, by omega⟩
      rw [hx] at cx hxi hxr
      clear hx
      have hxN : x < N := by omega
      obtain ⟨v, hkv⟩ : ∃ v, vs[x]? = some v := ⟨_, List.getElem?_eq_getElem (by have := HVL.out; omega)⟩
      obtain ⟨b, off, rfl, hat⟩ := (HR.out.below HB.out (Nat.le_refl _) (by decide)).at_ (by omega)
      have HRG : Hid (wr.rangeAt b (off + x * 15) (vcs v)) := hat x (vcs v) (by rw [List.getElem?_map, hkv]; rfl)
      have HE : Hid (pickV vs (ids.take (q + 1)) = pickV vs (ids.take q) ++ [v]) := by show _ = _; exact pickV_snoc hxi hkv
      have hll : (pickV vs (ids.take q)).length = q := by rw [pickV_len, List.length_take]; have := HIL.out; omega
      clear hat hkv hxi hxr
      have HO1 := hide (vcs_one v)
      have HOX := HO
      obtain ⟨ob, hob⟩ : ∃ ob, Hid (u13.ownBlock = ob) := ⟨_, rfl⟩
      have HOB : Hid (∀ j, ob = some j → U.heap.size ≤ j ∧ j < wr.heap.size) := fun j hj => by rw [← hob.out] at hj; exact HO.out.lt j hj
      have hww := HB.out.size
      clear HO
      generalize hfl : pickV vs (ids.take q) = fl at *
      go_wp2_with (first | (refine wpList_load_mid rfl 34 _ rfl b (off + x * 15) rfl (vcs v) _ HRG.out Try.underlying34 rfl (by kernel_rfl) ?_) | (refine wpList_buildOne rfl 29 34 _ rfl 15 (vcs v) rfl rfl i0 _ Try.underlying29 hii hz0 hz1 (by omega) (by omega) ?_) | (at_builtin; refine wpList_append_own_at _ rfl _ _ 29 rfl U.heap.size 34 i0 _ 15 168 Try.underlying29 hii hz0 hz1 hz2 (by kernel_rfl) (by decide) u13 _ _ rfl (World.ownsRow.alloc HOX.out _) ⟨wr.heap.size, 0, none⟩ 1 1 (vcs v) rfl rfl (rowVQ_new _ _) HO1.out (by unfold maxLen; omega) (by omega) (by simp; omega) ?_; intro v' w4 hown4 hgrow4 hnil4 hloc4; have HO4 := hide hown4; have HG4 := hide hgrow4; clear hown4 hgrow4 hnil4 hloc4))
      have HO5 : Hid (w4.ownsRow U.heap.size 34 15 v' (pickV vs (ids.take (q + 1))).length (((pickV vs (ids.take (q + 1))).map vcs).flatten)) := by
        show World.ownsRow _ _ _ _ _ _ _
        rw [HE.out, List.map_append, List.flatten_append, List.length_append]
        have := HO4.out
        simpa using this
      have HB4 : Hid (Below U.heap.size U w4) := (HB.out.alloc (by omega) _).grown HG4.out (by simp; omega) (fun j hj => (HOB.out j (by rw [← hob.out]; exact hj)).1)
      go_roundw
      case rel => exact ⟨q + 1, by go_num, by omega, HO5, HB4⟩
      case measure => simp [intOf]; omega
    · have hqm : q = M := by omega
      subst hqm
      have HT : Hid (ids.take q = ids) := List.take_of_length_le (by have := HIL.out; omega)
      rw [HT.out] at HO
      obtain ⟨pa, pc, rfl, hpc, hrow⟩ := rowS_of HO.out (List.length_map ..) (by decide) (fun cs hcs => by obtain ⟨v, _, rfl⟩ := List.mem_map.1 hcs; exact ⟨rfl, vcs_one v⟩)
      have HRP := hide hrow
      have HVP : Hid (∀ v ∈ pickV vs ids, Vok wr v) := fun v h => (HV.out v (pickV_mem (fun x hx => by have := HIN.out x hx; have := HVL.out; omega) v h)).below HB.out (Nat.le_refl _)
      have QA1 : Hid (Blk wr w.heap.size (ccs c)) := QA.out.on HB.out
      have QB1 : Hid (Blk wr (w.heap.size + 1) [.int .i64 seq, .slice a k cap]) := QB.out.on HB.out
      have HS1 : Hid (SegI wr a k l) := HS.out.below HB.out (Nat.le_refl _)
      have B1 : Hid (Below w.heap.size w wr) := BU.out.trans (HB.out.mono BU.out.size)
      have HFL : Hid (Fit l) := HS.out.2.2.2
      clear hrow HO hpc HR HV HI HIN HVL HT HIL HB QA QB HS
      go_wp2_with fail
      refine (prep_any n row pa pc _ wr HRP.out HVP.out hb).mono ?_
      rintro e w8 ⟨u8, t8, rfl, ho8, hb8⟩
      rw [HPL.out] at ho8 ⊢
      dsimp only at ho8 ⊢
      have HO8 := hide ho8
      have HB8 := hide hb8
      clear ho8 hb8
      obtain ⟨X8, hX8⟩ : ∃ X8, X8 = w8.alloc (.cells zP.toArray 45) := ⟨_, rfl⟩
      have ZX8 : Hid (Blk X8 w8.heap.size zP) := by rw [hX8]; exact blk_new w8 45 zP
      have TX8 := hide ZX8.out.there
      have BX8 : Hid (Below wr.heap.size wr X8) := by rw [hX8]; exact HB8.out.alloc HB8.out.size _
      obtain ⟨Y8, hY8⟩ : ∃ Y8, Y8 = X8.setCells w8.heap.size 0 (pcs 2 c seq u8 l.length t8) := ⟨_, rfl⟩
      have HP8 : Hid (Blk Y8 w8.heap.size (pcs 2 c seq u8 l.length t8)) := by rw [hY8]; exact blk_cells ZX8.out rfl
      have BY8 : Hid (Below wr.heap.size wr Y8) := by rw [hY8]; exact below_cells HB8.out.size _ _ _ BX8.out
      have OX8 : Hid (X8.ownsRow wr.heap.size 3 1 (.slice u8 l.length t8) l.length (l.map (Value.int .i64))) := by rw [hX8]; exact World.ownsRow.alloc HO8.out _
      have OY8 : Hid (Y8.ownsRow wr.heap.size 3 1 (.slice u8 l.length t8) l.length (l.map (Value.int .i64))) := by
        show World.ownsRow _ _ _ _ _ _ _
        refine World.ownsRow.kept (row := some w8.heap.size) OX8.out (by rw [hY8]; exact grown_cells _ _ _ _) ?_
        refine .inr fun e => ?_
        have := HO8.out.lt _ e
        omega
      have SL : Hid (SegI Y8 u8 l.length l) := by
        obtain ⟨ua', uc', he, -, hseg⟩ := own_segI OY8.out HFL.out
        injection he with e1 e2 e3
        rw [e1]; exact hseg
      have QA2 : Hid (Blk Y8 w.heap.size (ccs c)) := QA1.out.on BY8.out
      have QB2 : Hid (Blk Y8 (w.heap.size + 1) [.int .i64 seq, .slice a k cap]) := QB1.out.on BY8.out
      have HS2 : Hid (SegI Y8 a k l) := HS1.out.below BY8.out (Nat.le_refl _)
      have B8 : Hid (Below w.heap.size w Y8) := B1.out.trans (BY8.out.mono B1.out.size)
      have HX8 : Hid (w8.alloc (.cells #[.int .i64 0, .int .i64 0, .int .i64 0, .int .i64 0, .string ⟨#[]⟩, .string ⟨#[]⟩, .string ⟨#[]⟩, .string ⟨#[]⟩, .int .i64 0, .int .i64 0, .slice none 0 0] 45) = X8) := hX8.symm
      have HY8 := hide hY8
      clear hX8 hY8
      have g0 := QB2.out.cell 0 _ rfl
      have g1 := QB2.out.cell 1 _ rfl
      go_wp2_with (first | (rw [HX8.out]; refine wpList_store_mid rfl 45 _ _ rfl w8.heap.size 0 (pcs 2 c seq u8 l.length t8).toArray rfl rfl TX8.out (by kernel_rfl) (all_oneCell_toArray (pcs_one _ _ _ _ _ _)) ?_; first | rw [← HY8.out] | (simp only [List.toList_toArray]; rw [← HY8.out])) | (refine wpList_load_mid rfl 45 _ rfl w8.heap.size 0 rfl (pcs 2 c seq u8 l.length t8) _ HP8.out.range Try.underlying45 rfl (by kernel_rfl) ?_) | (refine wpList_load_mid rfl 25 _ rfl w.heap.size 0 rfl (ccs c) _ QA2.out.range Try.underlying25 rfl (by kernel_rfl) ?_) | (refine wpList_buildQ rfl 45 _ rfl [(0, .int .i64 2), (1, .agg (ccs c).toArray), (2, .int .i64 seq), (3, .slice a k cap)] rfl _ (built_plan3 2 c seq a k cap) ?_))
      refine (samePlan_same 2 c seq u8 a l.length t8 k cap l _ SL.out HS2.out).mono ?_
      rintro e w9 ⟨rfl, hb9⟩
      go_wp2
      go_ret
      exact ⟨rfl, B8.out.trans (hb9.mono B8.out.size)⟩
end Go.Proofs.Ytpbbbbmnboeffaa
