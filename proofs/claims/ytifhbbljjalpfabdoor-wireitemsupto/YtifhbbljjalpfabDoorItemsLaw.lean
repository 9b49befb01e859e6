/- Proved: for every list of items and every list of bytes of bulk at most 1048576 together, WireItems answers true: items written one behind the other are read back, each at its place, and Close tells what is left. The five sentinels of package wire are as the program's text lays them. -/
import Derived.Test.YtifhbbljjalpfabDoorGot
import Derived.Test.YtifhbbljjalpfabDoorLaid
import Derived.Test.YtifhbbljjalpfabDoorCards
import Derived.Test.YtifhbbljjalpfabDoorTie
import Derived.Deep.DeepHandedRow
import Derived.Deep.DeepWitnessRowRef
import Derived.WalkSmall
namespace Go.Proofs.YtifhbbljjalpfabDoor
namespace wireItems
open Go.ChangeShapes Go.WideShapes Go.ChangeAt Go.RowKit Go.Wire1

theorem bulk_pos {H : Type} (d : DataW H) : 1 ≤ Rows.uptoBulk d := by
  cases d with
  | lit l => cases l <;> simp [Rows.uptoBulk]
  | _ => simp [Rows.uptoBulk]
theorem bulk_len {H : Type} : ∀ es : List (DataW H), es.length ≤ Rows.uptoBulkAll es
  | [] => Nat.zero_le _
  | d :: r => by
    have h1 := bulk_pos d
    have h2 := bulk_len r
    show r.length + 1 ≤ Rows.uptoBulk d + Rows.uptoBulkAll r
    omega
theorem flat_drop {items : List ItemV} {k : Nat} (h : k < items.length) (tl : List Int) : (flat items ++ tl).drop (flat (items.take k)).length = putL (items.getD k itemZ) ++ (flat (items.drop (k + 1)) ++ tl) := by
  rw [flat_split items (k + 1), flat_next h, List.append_assoc, List.append_assoc, List.drop_left, ← List.append_assoc, List.append_assoc]

set_option maxHeartbeats 4000000 in
set_option maxRecDepth 100000 in
theorem walk (ia ta : Option Addr) (inn icap tn tcap : Nat) (items : List ItemV) (tl : List Int) (a : Nat → Addr) (w : World) (hi : ItemSeg w ia inn items) (hh : heft items ≤ 1048576) (ht : Seg w ta tn tl) (hty : Byt tl) (htn : tn ≤ 1048576) (he : Errs w a) :
    Calls Tryd.prog 5 #[.slice ia inn icap, .slice ta tn tcap] w fun e w' => e = .returned (.bool true) ∧ Below w.heap.size w w' := by
  have hsz : Hid (∀ o ∈ items, o.s.size ≤ 1048576) := fun o ho => by have := size_le_heft ho; omega
  have hfl : (flat items).length ≤ 2097152 := by have := flat_le items hi.2.2.2 (fun o ho => by have := hsz.out o ho; omega); omega
  have HAt : Hid (∀ k, k < inn → (items.getD k itemZ).s.size ≤ 140737488351232) := fun k hk => by
    have hk' : k < items.length := by rw [hi.1]; exact hk
    have : items.getD k itemZ ∈ items := by simp only [List.getD_eq_getElem?_getD, List.getElem?_eq_getElem hk', Option.getD_some]; exact List.getElem_mem hk'
    have := hsz.out _ this
    omega
  have HPre : Hid (∀ k, (flat (items.take k)).length ≤ 2097152) := fun k => by
    have := congrArg List.length (flat_split items k); rw [List.length_append] at this; omega
  have hin := hi.2.1
  unfold maxLen at hin
  have hil := hide hi.1
  have HNext : Hid (∀ k, k < inn → flat (items.take (k + 1)) = flat (items.take k) ++ putL (items.getD k itemZ)) := fun k hk => flat_next (by rw [hi.1]; exact hk)
  have HLe : Hid (∀ k, k < inn → (putL (items.getD k itemZ)).length ≤ 2097152) := fun k hk => by
    have h1 := HNext.out k hk; have h2 := HPre.out (k + 1); rw [h1, List.length_append] at h2; omega
  go_enter Tryd.func5, Tryd.ntmps5
  go_wp2_with fail
  go_loopw [5, 6] (fun v c wr => ∃ k : Nat, c = .int .i64 (k : Int) ∧ k ≤ inn ∧ wr.ownsRow w.heap.size 5 1 v (flat (items.take k)).length ((flat (items.take k)).map (Value.int .u8)) ∧ Hid (Below w.heap.size w wr)) (fun _ c _ => inn - (intOf c).toNat)
  case atStart => exact ⟨0, rfl, Nat.zero_le _, by rw [List.take_zero]; exact World.ownsRow_nil _ _ _ _, Below.refl _ _⟩
  case round =>
    obtain ⟨k, rfl, hk, hown, HB⟩ := hrel
    by_cases hlt : k < inn
    · obtain ⟨ib, io, rfl, hc⟩ := (hi.below HB.out (Nat.le_refl _)).2.2.1 (by omega)
      obtain ⟨c0, c1, c2, c3⟩ := hc k hlt
      have hok := itemOk_at hi.2.2.2 k
      have hs := HAt.out k hlt
      have HN := hide (HNext.out k hlt)
      have hp1 := HPre.out k
      have hp2 := HLe.out k hlt
      clear hc
      generalize items.getD k itemZ = o at *
      obtain ⟨va, vc, rfl, _, _, sA⟩ := seg_own hown
      clear hown
      generalize flat (items.take k) = F at *
      go_wp2_with fail
      refine (put_any o hok hs _).mono ?_
      rintro e w1 ⟨v1, rfl, hown1, B1⟩
      obtain ⟨pa, pc, rfl, _, _, sP⟩ := seg_own hown1
      replace sA := sA.below B1 (Nat.le_refl _)
      have HB1 := hide (HB.out.trans (B1.mono HB.out.size))
      clear hown1 B1 HB c0 c1 c2 c3
      generalize putL o = PL at *
      go_wp2_with fail
      refine (joined_any _ _ _ _ _ _ F PL _ sA sP (by omega)).mono ?_
      rintro e w2 ⟨v2, rfl, hown2, B2⟩
      have HB2 := hide (HB1.out.trans (B2.mono HB1.out.size))
      rw [← HN.out] at hown2
      have hown3 := own_low hown2 HB1.out.size
      clear hown2 B2 HB1 sA sP
      go_wp2_with fail
      go_roundw
      case rel => exact ⟨k + 1, by go_num, by omega, hown3, HB2⟩
      case measure => simp [intOf]; omega
    · have hT : items.take k = items := List.take_of_length_le (by rw [hil.out]; omega)
      rw [hT] at hown
      clear hT
      obtain ⟨va, vc, rfl, hvc, hvm, sA⟩ := seg_own hown
      unfold maxLen at hvm
      have t1 := ht.below HB.out (Nat.le_refl _)
      have HDr : Hid (∀ k, k < inn → (flat items ++ tl).drop (flat (items.take k)).length = putL (items.getD k itemZ) ++ (flat (items.drop (k + 1)) ++ tl)) := fun k hk => flat_drop (by rw [hi.1]; exact hk) tl
      have HFull : Hid (∀ k, ¬ k < inn → (flat (items.take k)).length = (flat items).length) := fun k hk => by rw [List.take_of_length_le (by rw [hi.1]; omega)]
      have HLT : Hid ((flat items ++ tl).length = (flat items).length + tn) := by show _ = _; rw [List.length_append, ht.1]
      have HBy : Hid (Byt (flat items ++ tl)) := byt_app (flat_byt items) hty
      have HNx : Hid (∀ k, k < inn → (flat (items.take (k + 1))).length = (flat (items.take k)).length + (putL (items.getD k itemZ)).length) := fun k hk => by rw [HNext.out k hk, List.length_append]
      have HZ : Hid ((flat (items.take 0)).length = 0) := by show _ = _; rw [List.take_zero]; rfl
      clear hown HNext
      generalize hFE : flat items = F at *
      clear hFE
      go_wp2_with fail
      refine (joined_any _ _ _ _ _ _ F tl _ sA t1 (by omega)).mono ?_
      rintro e w2 ⟨v2, rfl, hown2, B2⟩
      have HB2 := hide (HB.out.trans (B2.mono HB.out.size))
      obtain ⟨ja, jc, rfl, _, _, sJ⟩ := seg_own hown2
      have nJ : ja = none → (F ++ tl).length = 0 := fun e => by
        subst e; rcases hown2.2 with ⟨h, h'⟩ | ⟨g, _, _, h, _⟩
        · exact h'
        · cases h
      have e2 := he.below HB2.out (Nat.le_refl _)
      have hJl : (F ++ tl).length ≤ F.length + tn ∧ F.length + tn ≤ (F ++ tl).length := by have := HLT.out; omega
      clear hown2 B2 HB sA t1 HLT
      generalize F ++ tl = L at *
      go_wp2_with fail
      refine (newReader_any ja L.length jc L a _ sJ HBy.out e2 (by omega) nJ).mono ?_
      rintro e w3 ⟨b, sa, cap, rfl, hb, B3, R, _⟩
      have hbw : w.heap.size ≤ b := Nat.le_trans HB2.out.size hb
      have HB3 := hide (HB2.out.trans (B3.mono HB2.out.size))
      clear B3 HB2 sJ nJ e2 hb
      go_wp2_with fail
      go_loopw [8, 10] (fun p c wr => ∃ k : Nat, p = .int .i64 ((flat (items.take k)).length : Int) ∧ c = .int .i64 (k : Int) ∧ k ≤ inn ∧ Rdr wr b sa L.length cap (flat (items.take k)).length 0 L a ∧ Hid (Below w.heap.size w wr)) (fun _ c _ => inn - (intOf c).toNat)
      case atStart => exact ⟨0, by rw [HZ.out]; rfl, rfl, Nat.zero_le _, by rw [HZ.out]; exact R, HB3⟩
      case round =>
        clear R HB3 HZ
        obtain ⟨k, rfl, rfl, hk, R, HB3⟩ := hrel
        by_cases hlt : k < inn
        · obtain ⟨ib, io, rfl, hc⟩ := (hi.below HB3.out (Nat.le_refl _)).2.2.1 (by omega)
          obtain ⟨c0, c1, c2, c3⟩ := hc k hlt
          have hok := itemOk_at hi.2.2.2 k
          have hs := HAt.out k hlt
          have HN := hide (HNx.out k hlt)
          have hp1 := HPre.out k
          have hp2 := HLe.out k hlt
          have hdr := hide (HDr.out k hlt)
          have hib : ib < w.heap.size := by
            obtain ⟨ib', io', e', hc'⟩ := hi.2.2.1 (by omega)
            cases e'
            exact cell_lt (hc' k hlt).1
          clear hc
          generalize items.getD k itemZ = o at *
          generalize flat (items.drop (k + 1)) ++ tl = post at *
          go_wp2_with fail
          refine (got_hit o hok hs b L.length cap _ sa L post a _ R hdr.out).mono ?_
          rintro e w4 ⟨rfl, T4, R4⟩
          rw [← HN.out] at R4
          have HB4 := hide (T4.below hbw HB3.out)
          have key : ∀ q v, wr.cell? ⟨ib, q, none⟩ = some v → w4.cell? ⟨ib, q, none⟩ = some v := fun q v hv => by
            rw [World.cell?_of_block (a := ⟨ib, q, none⟩) (T4.block ib (cell_lt hv) (by omega))]; exact hv
          have d0 := key _ _ c0
          have d1 := key _ _ c1
          have d2 := key _ _ c2
          have d3 := key _ _ c3
          clear key c0 c1 c2 c3 T4 R HB3 hdr
          go_wp2_with fail
          refine (put_any o hok hs _).mono ?_
          rintro e w5 ⟨v5, rfl, hown5, B5⟩
          obtain ⟨pa, pc, rfl, _, _, _⟩ := seg_own hown5
          replace R4 := R4.below B5 (Nat.le_refl _)
          have HB5 := hide (HB4.out.trans (B5.mono HB4.out.size))
          have hq : ((flat (items.take (k + 1))).length : Int) = ((flat (items.take k)).length : Int) + ((putL o).length : Int) := by rw [HN.out]; omega
          clear hown5 B5 HB4 d0 d1 d2 d3 HN
          generalize hQE : (flat (items.take (k + 1))).length = Q at *
          have HQE := hide hQE
          clear hQE
          generalize (flat (items.take k)).length = P at *
          generalize (putL o).length = PN at *
          go_wp2_with fail
          refine (stands_any 0 _ b L.length cap Q 0 sa L a _ R4 rfl hq).mono ?_
          rintro e w6 ⟨rfl, q6, rfl⟩
          replace R4 := R4.drewN q6
          have HB6 := hide (below_drewN HB5.out q6)
          clear HB5
          generalize w5.drewN q6 = w6 at *
          go_wp2_with fail
          go_roundw
          case rel => exact ⟨k + 1, by rw [HQE.out, hq], by go_num, by omega, by rw [HQE.out]; exact R4, HB6⟩
          case measure => simp [intOf]; omega
        · have hfu := HFull.out k hlt
          rw [hfu] at R ⊢
          clear hfu HFull HDr HNx HAt HPre HLe
          go_wp2_with fail
          refine (leftR_any b L.length cap F.length 0 sa L a _ R).mono ?_
          rintro e w4 ⟨rfl, q4, rfl⟩
          replace R := R.drewN q4
          have HB4 := hide (below_drewN HB3.out q4)
          clear HB3
          generalize wr.drewN q4 = w4 at *
          go_wp2_with fail
          refine (close_any b L.length cap F.length 0 sa L a _ R).mono ?_
          rintro e w5 ⟨rfl, T5, R5⟩
          have HB5 := hide (T5.below hbw HB4.out)
          clear R T5 HB4
          have hl1 : (((L.length : Int) - (F.length : Int)) != (tn : Int)) = false := by simp; omega
          by_cases ht0 : tn = 0
          · subst ht0
            have hcf : closeF L.length F.length 0 = 0 := by unfold closeF; rw [if_neg (by omega)]
            rw [hcf] at R5 ⊢
            clear hcf
            go_wp2_with (first | (go_at_call 13; refine (num_any _ _).mono ?_; rintro e w' ⟨rfl, rfl⟩) | (go_at_call 23; refine (stands_any 0 _ b L.length cap F.length 0 sa L a _ R5 rfl rfl).mono ?_; rintro e w' ⟨rfl, q6, rfl⟩))
            go_ret
            exact ⟨rfl, below_drewN HB5.out q6⟩
          · have hcf : closeF L.length F.length 0 = 16 := by unfold closeF; rw [if_pos ⟨rfl, by omega⟩]
            rw [hcf] at R5 ⊢
            clear hcf
            have htb : ((tn : Int) == 0) = false := by simp; omega
            go_wp2_with (first | (go_at_call 13; refine (num_any _ _).mono ?_; rintro e w' ⟨rfl, rfl⟩) | (go_at_call 23; refine (stands_any 16 _ b L.length cap F.length 16 sa L a _ R5 rfl rfl).mono ?_; rintro e w' ⟨rfl, q6, rfl⟩))
            go_ret
            exact ⟨rfl, below_drewN HB5.out q6⟩

set_option maxRecDepth 100000 in
/-- For every argument and every world that holds the sentinels. -/
theorem contract (H : Type) (enc : TypeId × Value → H) (W : World) (base : Nat) (args : Array Value) (ds gs : List (DataW H)) (before : List MemPlace)
    (hval : ∀ (j : Nat) t v, Tryd.f5.params[j]? = some t → args[j]? = some v → Value.okWide Tryd.prog W .any base t v)
    (hW : DataW.Whole enc Tryd.prog Tryd.f5.params.toList Rows.wireItemsSpec.vars false W args.toList ds gs before)
    (hsz : (DataW.weightsEach Tryd.prog (Tryd.f5.params.toList ++ (Rows.OpenSpec.upto Rows.wireItemsSpec).bare.plain.varTypes Tryd.prog) (ds ++ gs)).all (· ≤ reachBytes) = true)
    (hup : Rows.uptoSmall H (ds ++ gs) = true)
    (hL : laidMetH Tryd.prog Rows.wireItemsUptoRow.laid W) :
    Calls Tryd.prog 5 args W fun e W' => ∃ v, e = .returned v ∧ Rows.wireItemsSpec.post enc Tryd.prog Tryd.f5 false true false false W args v W' := by
  have hW' := hW
  obtain ⟨p, q, hA0, hV, rfl, hfz, hnd⟩ := hW
  have hA : DataW.TrodAll enc Tryd.prog W 0 (fun _ => true) true Tryd.f5.params.toList args.toList ds p := hA0
  rw [Tryd.params5] at hA hval hsz
  obtain ⟨v0, vs0, d0, ds0, p0, q0, hargs, rfl, rfl, h0, r0⟩ := trodAll_cons hA
  obtain ⟨v1, vs1, d1, ds1, p1, q1, rfl, rfl, rfl, h1, r1⟩ := trodAll_cons r0
  obtain ⟨rfl, rfl, rfl⟩ := trodAll_nil r1
  obtain rfl : args = #[v0, v1] := by cases args; simp_all
  obtain ⟨rfl, rfl⟩ := trodVars_none hV
  obtain ⟨a0, n0, cap0, rfl⟩ := okWide_slice Tryd.underlying43 (hval 0 43 v0 rfl rfl)
  have k0 := h0
  have lt0 : ∀ x ∈ p0, x.block < W.heap.size := by obtain ⟨m, hm⟩ := k0; exact DataW.trod_lt m _ _ _ hm
  obtain ⟨fuel0, hf0⟩ := h0
  obtain ⟨l0, hseg0, hbulk0⟩ := open_items hf0
  obtain ⟨a1, n1, cap1, rfl⟩ := okWide_slice Tryd.underlying25 (hval 1 25 v1 rfl rfl)
  have k1 := h1
  have lt1 : ∀ x ∈ p1, x.block < W.heap.size := by obtain ⟨m, hm⟩ := k1; exact DataW.trod_lt m _ _ _ hm
  obtain ⟨fuel1, hf1⟩ := h1
  obtain ⟨l1, hseg1, hbyt1, hcap1, hdat1⟩ := open_bytes hf1
  have hreach1 : cap1 ≤ 140737488351232 := by
    rcases hdat1 with ⟨_, _, h⟩ | ⟨elems, spare, hd, he, hc⟩
    · omega
    · have hs := sized_slice hsz (j := 1) (t := 25) (e := 5) (elems := elems) (spare := spare) rfl (by rw [show d1 = _ from hd]; rfl) Tryd.underlying25
      rw [bytes5] at hs
      simp only [reachBytes] at hs
      omega
  obtain ⟨a, hE⟩ := errs_of_laid hL
  clear hA0
  have hup' : Rows.uptoBulk d0 + (Rows.uptoBulk d1 + 0) ≤ 1048576 := of_decide_eq_true hup
  have hb0 : heft l0 ≤ Rows.uptoBulk d0 := hbulk0
  have hn1 : n1 ≤ 1048576 := by
    rcases hdat1 with ⟨_, h, _⟩ | ⟨elems, spare, hd, he, _⟩
    · omega
    · have h1 := bulk_len elems
      have h2 : Rows.uptoBulk d1 = Rows.uptoBulkAll elems + Rows.uptoBulkAll spare + 1 := by rw [show d1 = _ from hd]; rfl
      omega
  refine (walk a0 a1 n0 cap0 n1 cap1 l0 l1 a W hseg0 (by omega) hseg1 hbyt1 hn1 hE).mono fun e W' ⟨he, bel⟩ => ?_
  subst he
  exact ⟨_, rfl, _, _, _, [], _, [], hW', trodAll_mk1 (shut_bool Tryd.underlying4 _), (trodAll_cons_mk (Below.trod laidOut (by kernel_rfl) (of_decide_eq_true (by kernel_rfl)) k0 bel lt0) (trodAll_cons_mk (Below.trod laidOut (by kernel_rfl) (of_decide_eq_true (by kernel_rfl)) k1 bel lt1) trodAll_mk0)), rfl, bel.frame _, fun h => by cases h⟩

theorem reads (os : Os) {H : Type} (enc : TypeId × Value → H) : ∃ places, DataW.whole enc Tryd.prog ((World.doorLaid Tryd.prog 104 os).forCall (fun _ _ => 0) ⟨#[], #[.slice none 0 0, .slice none 0 0], []⟩).memory Tryd.f5.params.toList Rows.wireItemsSpec.vars false #[Value.slice none 0 0, .slice none 0 0].toList 8 = some ([.nil, .nil], [], places) :=
  ⟨[], by kernel_rfl⟩

set_option maxRecDepth 100000 in
theorem lifted (os : Os) (started : os.Started) (H : Type) (enc : TypeId × Value → H) (F : Stop.Interp) :
    ReturnsInHanded {} Tryd.checked os 5 .any ((Rows.OpenSpec.upto Rows.wireItemsSpec).preRow enc Tryd.prog Tryd.f5 Rows.wireItemsUptoRow.domain false Rows.wireItemsUptoRow.laid) (((Rows.OpenSpec.upto Rows.wireItemsSpec).at F).post enc Tryd.prog Tryd.f5 false true false false) := by
  obtain ⟨places, hx⟩ := reads os enc
  refine returnsInHanded_of_row (C := Tryd.checked) (s := (Rows.OpenSpec.upto Rows.wireItemsSpec)) own started (by kernel_rfl) Tryd.func5
    (witness_row_atRef (enc := enc) (C := Tryd.checked) false (World.doorLaid Tryd.prog 104 os) #[.slice none 0 0, .slice none 0 0] rfl (by kernel_rfl) (by kernel_rfl) (by kernel_rfl)
      (OpenSpec.preRow_of_cond 8 hx (by kernel_rfl) (fun k hk => by cases hk; kernel_rfl) (by kernel_rfl) (door_met os _))) ?_
  intro W base args ds gs before hval hW _ hcond hsz hL _ _
  exact contract H enc W base args ds gs before hval hW hsz (hcond _ rfl) hL

theorem said : Rows.WireItemsUptoSaid :=
  OpenClaim.holds_of_cond 5 Tryd.f5 rfl rfl rfl rfl rfl rfl rfl ⟨rfl, rfl, rfl, rfl, rfl⟩ rfl rfl rfl rfl rfl (by kernel_rfl) Tryd.func5 (by kernel_rfl)
    (of_decide_eq_true (by kernel_rfl)) (by unfold Func.isWrapper; first | (rw [if_pos (by decide +kernel)]; kernel_rfl) | (rw [if_neg (by decide +kernel)]; exact ⟨rfl, rfl⟩))
    (fun os started H enc _ F => by rw [OpenClaim.pre_eq_preRow]; exact lifted os started H enc F)

theorem plain (f : FuncId) (fn : Func) (hf : Tryd.pinned.checked.prog.funcNamed "moot/mootlaw1.WireItems" = some f) (hfn : Tryd.pinned.checked.prog.funcs[f]? = some fn) :
    true = Tryd.pinned.checked.prog.looks [] ∧ ∀ (j : Nat) t, fn.params[j]? = some t → Tryd.pinned.checked.prog.wantsStandIn t = false := by
  obtain rfl : f = 5 := Option.some.inj ((show Tryd.prog.funcNamed "moot/mootlaw1.WireItems" = some 5 by kernel_rfl).symm.trans hf) |>.symm
  obtain rfl : fn = Tryd.f5 := (Option.some.inj (Tryd.func5.symm.trans hfn)).symm
  refine ⟨by kernel_rfl, fun j t ht => ?_⟩
  rw [Tryd.params5] at ht
  have hm : t ∈ [43, 25] := by simpa using Array.mem_of_getElem? ht
  have hall : ([43, 25].all fun u => !Tryd.prog.wantsStandIn u) = true := by kernel_rfl
  exact (show Tryd.prog.wantsStandIn t = false by simpa using List.all_eq_true.1 hall t hm)

end wireItems
theorem wireItems_proved : Rows.WireItemsUptoCardSaid :=
  Claim7.holds_tied_plain_at .later [] _ _ _ _ wireItems.said (fun _ h => by cases h) (by kernel_rfl) (fun _ h => by cases h) wireItemsUpto_row_tie rfl ⟨rfl, rfl⟩ (by kernel_rfl) rfl wireItems.plain (by kernel_rfl)
#print axioms wireItems_proved
end Go.Proofs.YtifhbbljjalpfabDoor
