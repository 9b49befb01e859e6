/- Proved: for every list of items of bulk at most 1048576 and every place, WireCut answers true: items cut off anywhere: those that are whole are read, the first that is not breaks the reader at its own first byte, for good. The five sentinels of package wire are as the program's text lays them. -/
import Derived.Test.YtifhbbljjalpfabDoorMiss
import Derived.Test.YtifhbbljjalpfabDoorLaid
import Derived.Test.YtifhbbljjalpfabDoorCards
import Derived.Test.YtifhbbljjalpfabDoorTie
import Derived.Deep.DeepHandedRow
import Derived.Deep.DeepWitnessRowRef
import Derived.WalkSmall
namespace Go.Proofs.YtifhbbljjalpfabDoor
namespace wireCut
open Go.ChangeShapes Go.WideShapes Go.ChangeAt Go.RowKit Go.Wire1

theorem cut_drop {items : List ItemV} {k N : Nat} (h : k < items.length) : ((flat items).take N).drop (flat (items.take k)).length = (putL (items.getD k itemZ) ++ flat (items.drop (k + 1))).take (N - (flat (items.take k)).length) := by
  rw [List.drop_take, flat_split items (k + 1), flat_next h, List.append_assoc, List.drop_left]
theorem cut_hit {items : List ItemV} {k N : Nat} (h : k < items.length) (hN : (flat (items.take k)).length + (putL (items.getD k itemZ)).length ≤ N) : ∃ post, ((flat items).take N).drop (flat (items.take k)).length = putL (items.getD k itemZ) ++ post := by
  rw [cut_drop h, List.take_append, List.take_of_length_le (by omega)]
  exact ⟨_, rfl⟩
theorem cut_miss {items : List ItemV} {k N : Nat} (h : k < items.length) (hN : N < (flat (items.take k)).length + (putL (items.getD k itemZ)).length) : ((flat items).take N).drop (flat (items.take k)).length = (putL (items.getD k itemZ)).take (N - (flat (items.take k)).length) := by
  rw [cut_drop h, List.take_append_of_le_length (by omega)]

set_option maxHeartbeats 4000000 in
set_option maxRecDepth 100000 in
theorem walk (ia : Option Addr) (inn icap : Nat) (items : List ItemV) (c : Int) (a : Nat → Addr) (w : World) (hi : ItemSeg w ia inn items) (hh : heft items ≤ 1048576) (hcb : -9223372036854775808 ≤ c ∧ c ≤ 9223372036854775807) (he : Errs w a) :
    Calls Tryd.prog 6 #[.slice ia inn icap, .int .i64 c] w fun e w' => e = .returned (.bool true) ∧ Below w.heap.size w w' := by
  have hsz : Hid (∀ o ∈ items, o.s.size ≤ 1048576) := fun o ho => by have := size_le_heft ho; omega
  have hfl : (flat items).length ≤ 2097152 := by have := flat_le items hi.2.2.2 (fun o ho => by have := hsz.out o ho; omega); omega
  have HAt : Hid (∀ k, k < inn → (items.getD k itemZ).s.size ≤ 140737488351232) := fun k hk => by
    have hk' : k < items.length := by rw [hi.1]; exact hk
    have : items.getD k itemZ ∈ items := by simp only [List.getD_eq_getElem?_getD, List.getElem?_eq_getElem hk', Option.getD_some]; exact List.getElem_mem hk'
    have := hsz.out _ this
    omega
  have HPre : Hid (∀ k, (flat (items.take k)).length ≤ 2097152) := fun k => by
    have := congrArg List.length (flat_split items k); rw [List.length_append] at this; omega
  have hin := hi.2.1
  unfold maxLen at hin
  have hil := hide hi.1
  have HNext : Hid (∀ k, k < inn → flat (items.take (k + 1)) = flat (items.take k) ++ putL (items.getD k itemZ)) := fun k hk => flat_next (by rw [hi.1]; exact hk)
  have HLe : Hid (∀ k, k < inn → (putL (items.getD k itemZ)).length ≤ 2097152) := fun k hk => by
    have h1 := HNext.out k hk; have h2 := HPre.out (k + 1); rw [h1, List.length_append] at h2; omega
  go_enter Tryd.func6, Tryd.ntmps6
  go_wp2_with fail
  go_loopw [5, 6] (fun v c wr => ∃ k : Nat, c = .int .i64 (k : Int) ∧ k ≤ inn ∧ wr.ownsRow w.heap.size 5 1 v (flat (items.take k)).length ((flat (items.take k)).map (Value.int .u8)) ∧ Hid (Below w.heap.size w wr)) (fun _ c _ => inn - (intOf c).toNat)
  case atStart => exact ⟨0, rfl, Nat.zero_le _, by rw [List.take_zero]; exact World.ownsRow_nil _ _ _ _, Below.refl _ _⟩
  case round =>
    obtain ⟨k, rfl, hk, hown, HB⟩ := hrel
    by_cases hlt : k < inn
    · obtain ⟨ib, io, rfl, hc⟩ := (hi.below HB.out (Nat.le_refl _)).2.2.1 (by omega)
      obtain ⟨c0, c1, c2, c3⟩ := hc k hlt
      have hok := itemOk_at hi.2.2.2 k
      have hs := HAt.out k hlt
      have HN := hide (HNext.out k hlt)
      have hp1 := HPre.out k
      have hp2 := HLe.out k hlt
      clear hc
      generalize items.getD k itemZ = o at *
      obtain ⟨va, vc, rfl, _, _, sA⟩ := seg_own hown
      clear hown
      generalize flat (items.take k) = F at *
      go_wp2_with fail
      refine (put_any o hok hs _).mono ?_
      rintro e w1 ⟨v1, rfl, hown1, B1⟩
      obtain ⟨pa, pc, rfl, _, _, sP⟩ := seg_own hown1
      replace sA := sA.below B1 (Nat.le_refl _)
      have HB1 := hide (HB.out.trans (B1.mono HB.out.size))
      clear hown1 B1 HB c0 c1 c2 c3
      generalize putL o = PL at *
      go_wp2_with fail
      refine (joined_any _ _ _ _ _ _ F PL _ sA sP (by omega)).mono ?_
      rintro e w2 ⟨v2, rfl, hown2, B2⟩
      have HB2 := hide (HB1.out.trans (B2.mono HB1.out.size))
      rw [← HN.out] at hown2
      have hown3 := own_low hown2 HB1.out.size
      clear hown2 B2 HB1 sA sP
      go_wp2_with fail
      go_roundw
      case rel => exact ⟨k + 1, by go_num, by omega, hown3, HB2⟩
      case measure => simp [intOf]; omega
    · have hT : items.take k = items := List.take_of_length_le (by rw [hil.out]; omega)
      rw [hT] at hown
      clear hT
      have HZ : Hid ((flat (items.take 0)).length = 0) := by show _ = _; rw [List.take_zero]; rfl
      obtain ⟨N, hNF, hcase⟩ : ∃ N : Nat, N ≤ (flat items).length ∧ ((c < 0 ∧ N = (flat items).length) ∨ (¬ c < 0 ∧ ((flat items).length : Int) ≤ c ∧ N = (flat items).length) ∨ (¬ c < 0 ∧ ¬ ((flat items).length : Int) ≤ c ∧ c = (N : Int))) := by
        by_cases h1 : c < 0
        · exact ⟨_, Nat.le_refl _, .inl ⟨h1, rfl⟩⟩
        · by_cases h2 : ((flat items).length : Int) ≤ c
          · exact ⟨_, Nat.le_refl _, .inr (.inl ⟨h1, h2, rfl⟩)⟩
          · exact ⟨c.toNat, by omega, .inr (.inr ⟨h1, h2, by omega⟩)⟩
      have HHit : Hid (∀ k, k < inn → (flat (items.take k)).length + (putL (items.getD k itemZ)).length ≤ N → ∃ post, ((flat items).take N).drop (flat (items.take k)).length = putL (items.getD k itemZ) ++ post) := fun k hk h => cut_hit (by rw [hi.1]; exact hk) h
      have HMiss : Hid (∀ k, k < inn → N < (flat (items.take k)).length + (putL (items.getD k itemZ)).length → ((flat items).take N).drop (flat (items.take k)).length = (putL (items.getD k itemZ)).take (N - (flat (items.take k)).length)) := fun k hk h => cut_miss (by rw [hi.1]; exact hk) h
      have HFull : Hid (∀ k, ¬ k < inn → N ≤ (flat (items.take k)).length) := fun k hk => by rw [List.take_of_length_le (by rw [hi.1]; omega)]; exact hNF
      have HTl : Hid (((flat items).take N).length = N) := by show _ = _; rw [List.length_take]; omega
      have HBy : Hid (Byt ((flat items).take N)) := byt_take (flat_byt items) N
      have HNx : Hid (∀ k, k < inn → (flat (items.take (k + 1))).length = (flat (items.take k)).length + (putL (items.getD k itemZ)).length) := fun k hk => by rw [HNext.out k hk, List.length_append]
      obtain ⟨va, vc, rfl, hvc, hvm, sA⟩ := seg_own hown
      unfold maxLen at hvm
      have sT := sA.take hNF
      have hnone : va = none → N = 0 := fun e => by
        subst e; rcases hown.2 with ⟨h, h'⟩ | ⟨g, _, _, h, _⟩
        · omega
        · cases h
      clear hown HNext sA
      generalize (flat items).take N = T at *
      generalize (flat items).length = FL at *
      rcases hcase with ⟨h1, h2⟩ | ⟨h1, h1', h2⟩ | ⟨h1, h1', rfl⟩
      · have HE := hide h2
        clear h2
        go_wp2_with fail
        rw [← HE.out]
        refine (newReader_any _ N _ T a _ sT HBy.out (he.below HB.out (Nat.le_refl _)) (by omega) hnone).mono ?_
        rintro e w3 ⟨b, sa, cap, rfl, hb, B3, R, _⟩
        rw [HTl.out] at R
        have hbw : w.heap.size ≤ b := Nat.le_trans HB.out.size hb
        have HB3 := hide (HB.out.trans (B3.mono HB.out.size))
        clear B3 HB sT hb hnone
        go_wp2_with fail
        go_loopw [9, 10, 11] (fun p q d wr => ∃ (k at' : Nat) (br : Bool) (f : Int), p = .int .i64 (at' : Int) ∧ q = .bool br ∧ d = .int .i64 (k : Int) ∧ k ≤ inn ∧ Rdr wr b sa N cap at' f T a ∧ ((br = false ∧ f = 0 ∧ at' = (flat (items.take k)).length) ∨ (br = true ∧ f = 11)) ∧ Hid (Below w.heap.size w wr)) (fun _ _ d _ => inn - (intOf d).toNat)
        case atStart => exact ⟨0, 0, false, 0, rfl, rfl, rfl, Nat.zero_le _, R, .inl ⟨rfl, rfl, HZ.out.symm⟩, HB3⟩
        case round =>
          clear R HB3 HZ
          obtain ⟨k, at', br, f, rfl, rfl, rfl, hk, R, hst, HB3⟩ := hrel
          have hatN := R.ready.le
          by_cases hlt : k < inn
          · obtain ⟨ib, io, rfl, hc⟩ := (hi.below HB3.out (Nat.le_refl _)).2.2.1 (by omega)
            obtain ⟨c0, c1, c2, c3⟩ := hc k hlt
            have hok := itemOk_at hi.2.2.2 k
            have hs := HAt.out k hlt
            have HN := hide (HNx.out k hlt)
            have hp1 := HPre.out k
            have hp2 := HLe.out k hlt
            have HH := hide (HHit.out k hlt)
            have HMs := hide (HMiss.out k hlt)
            clear hc
            generalize items.getD k itemZ = o at *
            go_wp2_with fail
            refine (put_any o hok hs _).mono ?_
            rintro e w5 ⟨v5, rfl, hown5, B5⟩
            obtain ⟨pa, pc, rfl, _, _, _⟩ := seg_own hown5
            replace R := R.below B5 (Nat.le_refl _)
            have key : ∀ q v, wr.cell? ⟨ib, q, none⟩ = some v → w5.cell? ⟨ib, q, none⟩ = some v := fun q v hv => by
              rw [B5.cell (p := ⟨ib, q, none⟩) (cell_lt hv)]; exact hv
            have d0 := key _ _ c0
            have d1 := key _ _ c1
            have d2 := key _ _ c2
            have d3 := key _ _ c3
            have HB5 := hide (HB3.out.trans (B5.mono HB3.out.size))
            clear key c0 c1 c2 c3 HB3 B5 hown5
            rcases hst with ⟨rfl, rfl, hat⟩ | ⟨rfl, rfl⟩
            · rw [← hat] at HH HMs HN hp1
              clear hat
              by_cases hfit : at' + (putL o).length ≤ N
              · obtain ⟨post, hd⟩ := HH.out hfit
                have HD := hide hd
                have hq : ((at' + (putL o).length : Nat) : Int) = (at' : Int) + ((putL o).length : Int) := by omega
                have hdec : decide ((N : Int) < (at' : Int) + ((putL o).length : Int)) = false := decide_eq_false (by omega)
                clear hd
                go_wp2_with fail
                refine (got_hit o hok hs b N cap at' sa T post a _ R HD.out).mono ?_
                rintro e w4 ⟨rfl, T4, R4⟩
                have HB4 := hide (T4.below hbw HB5.out)
                have HN' : Hid (at' + (putL o).length = (flat (items.take (k + 1))).length) := HN.out.symm
                clear T4 R HB5 d0 d1 d2 d3 HD HH HMs HN
                generalize hPN : (putL o).length = PN at *
                clear hPN
                go_wp2_with fail
                refine (stands_any 0 _ b N cap (at' + PN) 0 sa T a _ R4 rfl hq).mono ?_
                rintro e w6 ⟨rfl, q6, rfl⟩
                replace R4 := R4.drewN q6
                have HB6 := hide (below_drewN HB4.out q6)
                clear HB4
                generalize w4.drewN q6 = w6 at *
                go_wp2_with fail
                go_roundw
                case rel => exact ⟨k + 1, at' + PN, false, 0, by rw [hq], rfl, by go_num, by omega, R4, .inl ⟨rfl, rfl, HN'.out⟩, HB6⟩
                case measure => simp [intOf]; omega
              · have hm : Miss o T at' 0 := .inr ⟨rfl, N - at', by omega, HMs.out (by omega)⟩
                have hdec : decide ((N : Int) < (at' : Int) + ((putL o).length : Int)) = true := decide_eq_true (by omega)
                clear HH HMs HN
                have HMF : Hid (missF 0 = 11) := rfl
                go_wp2_with fail
                refine (got_miss o hok hs b N cap at' 0 sa T a _ R hm).mono ?_
                rintro e w4 ⟨rfl, T4, R4⟩
                rw [HMF.out] at R4
                have HB4 := hide (T4.below hbw HB5.out)
                clear T4 R HB5 d0 d1 d2 d3 hm HMF
                go_wp2_with fail
                refine (stands_any 11 _ b N cap at' 11 sa T a _ R4 rfl rfl).mono ?_
                rintro e w6 ⟨rfl, q6, rfl⟩
                replace R4 := R4.drewN q6
                have HB6 := hide (below_drewN HB4.out q6)
                clear HB4
                generalize w4.drewN q6 = w6 at *
                go_wp2_with fail
                go_roundw
                case rel => exact ⟨k + 1, at', true, 11, rfl, rfl, by go_num, by omega, R4, .inr ⟨rfl, rfl⟩, HB6⟩
                case measure => simp [intOf]; omega
            · have hm : Miss o T at' 11 := .inl (by decide)
              clear HH HMs HN
              have HMF : Hid (missF 11 = 11) := rfl
              go_wp2_with fail
              refine (got_miss o hok hs b N cap at' 11 sa T a _ R hm).mono ?_
              rintro e w4 ⟨rfl, T4, R4⟩
              rw [HMF.out] at R4
              have HB4 := hide (T4.below hbw HB5.out)
              clear T4 R HB5 d0 d1 d2 d3 hm HMF
              go_wp2_with fail
              refine (stands_any 11 _ b N cap at' 11 sa T a _ R4 rfl rfl).mono ?_
              rintro e w6 ⟨rfl, q6, rfl⟩
              replace R4 := R4.drewN q6
              have HB6 := hide (below_drewN HB4.out q6)
              clear HB4
              generalize w4.drewN q6 = w6 at *
              go_wp2_with fail
              go_roundw
              case rel => exact ⟨k + 1, at', true, 11, rfl, rfl, by go_num, by omega, R4, .inr ⟨rfl, rfl⟩, HB6⟩
              case measure => simp [intOf]; omega
          · have HX : Hid (Meth (.int .i64 0) (rB 255 T at') at' f = (.int .i64 0, at', 11)) := by
              rcases hst with ⟨_, rfl, hat⟩ | ⟨_, rfl⟩
              · have h1 := HFull.out k hlt
                have h2 := HTl.out
                rw [← hat] at h1
                exact meth_err (i := 0) (by unfold rB; rw [if_pos (by omega)])
              · exact meth_broken (by decide)
            have HCl : Hid (closeF N at' 11 = 11) := closes (by decide)
            clear hst HFull HHit HMiss HAt HPre HLe HNx
            go_wp2_with fail
            refine (mByte.any 255 b N cap at' f sa T a _ R).mono ?_
            rintro e w4 ⟨rfl, T4, R4⟩
            rw [HX.out] at R4 ⊢
            have HB4 := hide (T4.below hbw HB3.out)
            clear T4 R HB3
            go_wp2_with fail
            refine (leftR_any b N cap at' 11 sa T a _ R4).mono ?_
            rintro e w5 ⟨rfl, q5, rfl⟩
            replace R4 := R4.drewN q5
            have HB5 := hide (below_drewN HB4.out q5)
            clear HB4
            generalize w4.drewN q5 = w5 at *
            go_wp2_with fail
            refine (close_any b N cap at' 11 sa T a _ R4).mono ?_
            rintro e w6 ⟨rfl, T6, R6⟩
            rw [HCl.out] at R6 ⊢
            have HB6 := hide (T6.below hbw HB5.out)
            clear T6 R4 HB5
            go_wp2_with (first | (go_at_call 13; refine (num_any _ _).mono ?_; rintro e w' ⟨rfl, rfl⟩) | (go_at_call 23; refine (stands_any 11 _ b N cap at' 11 sa T a _ R6 rfl rfl).mono ?_; rintro e w' ⟨rfl, q7, rfl⟩))
            go_ret
            exact ⟨rfl, below_drewN HB6.out q7⟩
      · have HE := hide h2
        clear h2
        go_wp2_with fail
        rw [← HE.out]
        refine (newReader_any _ N _ T a _ sT HBy.out (he.below HB.out (Nat.le_refl _)) (by omega) hnone).mono ?_
        rintro e w3 ⟨b, sa, cap, rfl, hb, B3, R, _⟩
        rw [HTl.out] at R
        have hbw : w.heap.size ≤ b := Nat.le_trans HB.out.size hb
        have HB3 := hide (HB.out.trans (B3.mono HB.out.size))
        clear B3 HB sT hb hnone
        go_wp2_with fail
        go_loopw [9, 10, 11] (fun p q d wr => ∃ (k at' : Nat) (br : Bool) (f : Int), p = .int .i64 (at' : Int) ∧ q = .bool br ∧ d = .int .i64 (k : Int) ∧ k ≤ inn ∧ Rdr wr b sa N cap at' f T a ∧ ((br = false ∧ f = 0 ∧ at' = (flat (items.take k)).length) ∨ (br = true ∧ f = 11)) ∧ Hid (Below w.heap.size w wr)) (fun _ _ d _ => inn - (intOf d).toNat)
        case atStart => exact ⟨0, 0, false, 0, rfl, rfl, rfl, Nat.zero_le _, R, .inl ⟨rfl, rfl, HZ.out.symm⟩, HB3⟩
        case round =>
          clear R HB3 HZ
          obtain ⟨k, at', br, f, rfl, rfl, rfl, hk, R, hst, HB3⟩ := hrel
          have hatN := R.ready.le
          by_cases hlt : k < inn
          · obtain ⟨ib, io, rfl, hc⟩ := (hi.below HB3.out (Nat.le_refl _)).2.2.1 (by omega)
            obtain ⟨c0, c1, c2, c3⟩ := hc k hlt
            have hok := itemOk_at hi.2.2.2 k
            have hs := HAt.out k hlt
            have HN := hide (HNx.out k hlt)
            have hp1 := HPre.out k
            have hp2 := HLe.out k hlt
            have HH := hide (HHit.out k hlt)
            have HMs := hide (HMiss.out k hlt)
            clear hc
            generalize items.getD k itemZ = o at *
            go_wp2_with fail
            refine (put_any o hok hs _).mono ?_
            rintro e w5 ⟨v5, rfl, hown5, B5⟩
            obtain ⟨pa, pc, rfl, _, _, _⟩ := seg_own hown5
            replace R := R.below B5 (Nat.le_refl _)
            have key : ∀ q v, wr.cell? ⟨ib, q, none⟩ = some v → w5.cell? ⟨ib, q, none⟩ = some v := fun q v hv => by
              rw [B5.cell (p := ⟨ib, q, none⟩) (cell_lt hv)]; exact hv
            have d0 := key _ _ c0
            have d1 := key _ _ c1
            have d2 := key _ _ c2
            have d3 := key _ _ c3
            have HB5 := hide (HB3.out.trans (B5.mono HB3.out.size))
            clear key c0 c1 c2 c3 HB3 B5 hown5
            rcases hst with ⟨rfl, rfl, hat⟩ | ⟨rfl, rfl⟩
            · rw [← hat] at HH HMs HN hp1
              clear hat
              by_cases hfit : at' + (putL o).length ≤ N
              · obtain ⟨post, hd⟩ := HH.out hfit
                have HD := hide hd
                have hq : ((at' + (putL o).length : Nat) : Int) = (at' : Int) + ((putL o).length : Int) := by omega
                have hdec : decide ((N : Int) < (at' : Int) + ((putL o).length : Int)) = false := decide_eq_false (by omega)
                clear hd
                go_wp2_with fail
                refine (got_hit o hok hs b N cap at' sa T post a _ R HD.out).mono ?_
                rintro e w4 ⟨rfl, T4, R4⟩
                have HB4 := hide (T4.below hbw HB5.out)
                have HN' : Hid (at' + (putL o).length = (flat (items.take (k + 1))).length) := HN.out.symm
                clear T4 R HB5 d0 d1 d2 d3 HD HH HMs HN
                generalize hPN : (putL o).length = PN at *
                clear hPN
                go_wp2_with fail
                refine (stands_any 0 _ b N cap (at' + PN) 0 sa T a _ R4 rfl hq).mono ?_
                rintro e w6 ⟨rfl, q6, rfl⟩
                replace R4 := R4.drewN q6
                have HB6 := hide (below_drewN HB4.out q6)
                clear HB4
                generalize w4.drewN q6 = w6 at *
                go_wp2_with fail
                go_roundw
                case rel => exact ⟨k + 1, at' + PN, false, 0, by rw [hq], rfl, by go_num, by omega, R4, .inl ⟨rfl, rfl, HN'.out⟩, HB6⟩
                case measure => simp [intOf]; omega
              · have hm : Miss o T at' 0 := .inr ⟨rfl, N - at', by omega, HMs.out (by omega)⟩
                have hdec : decide ((N : Int) < (at' : Int) + ((putL o).length : Int)) = true := decide_eq_true (by omega)
                clear HH HMs HN
                have HMF : Hid (missF 0 = 11) := rfl
                go_wp2_with fail
                refine (got_miss o hok hs b N cap at' 0 sa T a _ R hm).mono ?_
                rintro e w4 ⟨rfl, T4, R4⟩
                rw [HMF.out] at R4
                have HB4 := hide (T4.below hbw HB5.out)
                clear T4 R HB5 d0 d1 d2 d3 hm HMF
                go_wp2_with fail
                refine (stands_any 11 _ b N cap at' 11 sa T a _ R4 rfl rfl).mono ?_
                rintro e w6 ⟨rfl, q6, rfl⟩
                replace R4 := R4.drewN q6
                have HB6 := hide (below_drewN HB4.out q6)
                clear HB4
                generalize w4.drewN q6 = w6 at *
                go_wp2_with fail
                go_roundw
                case rel => exact ⟨k + 1, at', true, 11, rfl, rfl, by go_num, by omega, R4, .inr ⟨rfl, rfl⟩, HB6⟩
                case measure => simp [intOf]; omega
            · have hm : Miss o T at' 11 := .inl (by decide)
              clear HH HMs HN
              have HMF : Hid (missF 11 = 11) := rfl
              go_wp2_with fail
              refine (got_miss o hok hs b N cap at' 11 sa T a _ R hm).mono ?_
              rintro e w4 ⟨rfl, T4, R4⟩
              rw [HMF.out] at R4
              have HB4 := hide (T4.below hbw HB5.out)
              clear T4 R HB5 d0 d1 d2 d3 hm HMF
              go_wp2_with fail
              refine (stands_any 11 _ b N cap at' 11 sa T a _ R4 rfl rfl).mono ?_
              rintro e w6 ⟨rfl, q6, rfl⟩
              replace R4 := R4.drewN q6
              have HB6 := hide (below_drewN HB4.out q6)
              clear HB4
              generalize w4.drewN q6 = w6 at *
              go_wp2_with fail
              go_roundw
              case rel => exact ⟨k + 1, at', true, 11, rfl, rfl, by go_num, by omega, R4, .inr ⟨rfl, rfl⟩, HB6⟩
              case measure => simp [intOf]; omega
          · have HX : Hid (Meth (.int .i64 0) (rB 255 T at') at' f = (.int .i64 0, at', 11)) := by
              rcases hst with ⟨_, rfl, hat⟩ | ⟨_, rfl⟩
              · have h1 := HFull.out k hlt
                have h2 := HTl.out
                rw [← hat] at h1
                exact meth_err (i := 0) (by unfold rB; rw [if_pos (by omega)])
              · exact meth_broken (by decide)
            have HCl : Hid (closeF N at' 11 = 11) := closes (by decide)
            clear hst HFull HHit HMiss HAt HPre HLe HNx
            go_wp2_with fail
            refine (mByte.any 255 b N cap at' f sa T a _ R).mono ?_
            rintro e w4 ⟨rfl, T4, R4⟩
            rw [HX.out] at R4 ⊢
            have HB4 := hide (T4.below hbw HB3.out)
            clear T4 R HB3
            go_wp2_with fail
            refine (leftR_any b N cap at' 11 sa T a _ R4).mono ?_
            rintro e w5 ⟨rfl, q5, rfl⟩
            replace R4 := R4.drewN q5
            have HB5 := hide (below_drewN HB4.out q5)
            clear HB4
            generalize w4.drewN q5 = w5 at *
            go_wp2_with fail
            refine (close_any b N cap at' 11 sa T a _ R4).mono ?_
            rintro e w6 ⟨rfl, T6, R6⟩
            rw [HCl.out] at R6 ⊢
            have HB6 := hide (T6.below hbw HB5.out)
            clear T6 R4 HB5
            go_wp2_with (first | (go_at_call 13; refine (num_any _ _).mono ?_; rintro e w' ⟨rfl, rfl⟩) | (go_at_call 23; refine (stands_any 11 _ b N cap at' 11 sa T a _ R6 rfl rfl).mono ?_; rintro e w' ⟨rfl, q7, rfl⟩))
            go_ret
            exact ⟨rfl, below_drewN HB6.out q7⟩
      · go_wp2_with fail
        refine (newReader_any _ N _ T a _ sT HBy.out (he.below HB.out (Nat.le_refl _)) (by omega) hnone).mono ?_
        rintro e w3 ⟨b, sa, cap, rfl, hb, B3, R, _⟩
        rw [HTl.out] at R
        have hbw : w.heap.size ≤ b := Nat.le_trans HB.out.size hb
        have HB3 := hide (HB.out.trans (B3.mono HB.out.size))
        clear B3 HB sT hb hnone
        go_wp2_with fail
        go_loopw [9, 10, 11] (fun p q d wr => ∃ (k at' : Nat) (br : Bool) (f : Int), p = .int .i64 (at' : Int) ∧ q = .bool br ∧ d = .int .i64 (k : Int) ∧ k ≤ inn ∧ Rdr wr b sa N cap at' f T a ∧ ((br = false ∧ f = 0 ∧ at' = (flat (items.take k)).length) ∨ (br = true ∧ f = 11)) ∧ Hid (Below w.heap.size w wr)) (fun _ _ d _ => inn - (intOf d).toNat)
        case atStart => exact ⟨0, 0, false, 0, rfl, rfl, rfl, Nat.zero_le _, R, .inl ⟨rfl, rfl, HZ.out.symm⟩, HB3⟩
        case round =>
          clear R HB3 HZ
          obtain ⟨k, at', br, f, rfl, rfl, rfl, hk, R, hst, HB3⟩ := hrel
          have hatN := R.ready.le
          by_cases hlt : k < inn
          · obtain ⟨ib, io, rfl, hc⟩ := (hi.below HB3.out (Nat.le_refl _)).2.2.1 (by omega)
            obtain ⟨c0, c1, c2, c3⟩ := hc k hlt
            have hok := itemOk_at hi.2.2.2 k
            have hs := HAt.out k hlt
            have HN := hide (HNx.out k hlt)
            have hp1 := HPre.out k
            have hp2 := HLe.out k hlt
            have HH := hide (HHit.out k hlt)
            have HMs := hide (HMiss.out k hlt)
            clear hc
            generalize items.getD k itemZ = o at *
            go_wp2_with fail
            refine (put_any o hok hs _).mono ?_
            rintro e w5 ⟨v5, rfl, hown5, B5⟩
            obtain ⟨pa, pc, rfl, _, _, _⟩ := seg_own hown5
            replace R := R.below B5 (Nat.le_refl _)
            have key : ∀ q v, wr.cell? ⟨ib, q, none⟩ = some v → w5.cell? ⟨ib, q, none⟩ = some v := fun q v hv => by
              rw [B5.cell (p := ⟨ib, q, none⟩) (cell_lt hv)]; exact hv
            have d0 := key _ _ c0
            have d1 := key _ _ c1
            have d2 := key _ _ c2
            have d3 := key _ _ c3
            have HB5 := hide (HB3.out.trans (B5.mono HB3.out.size))
            clear key c0 c1 c2 c3 HB3 B5 hown5
            rcases hst with ⟨rfl, rfl, hat⟩ | ⟨rfl, rfl⟩
            · rw [← hat] at HH HMs HN hp1
              clear hat
              by_cases hfit : at' + (putL o).length ≤ N
              · obtain ⟨post, hd⟩ := HH.out hfit
                have HD := hide hd
                have hq : ((at' + (putL o).length : Nat) : Int) = (at' : Int) + ((putL o).length : Int) := by omega
                have hdec : decide ((N : Int) < (at' : Int) + ((putL o).length : Int)) = false := decide_eq_false (by omega)
                clear hd
                go_wp2_with fail
                refine (got_hit o hok hs b N cap at' sa T post a _ R HD.out).mono ?_
                rintro e w4 ⟨rfl, T4, R4⟩
                have HB4 := hide (T4.below hbw HB5.out)
                have HN' : Hid (at' + (putL o).length = (flat (items.take (k + 1))).length) := HN.out.symm
                clear T4 R HB5 d0 d1 d2 d3 HD HH HMs HN
                generalize hPN : (putL o).length = PN at *
                clear hPN
                go_wp2_with fail
                refine (stands_any 0 _ b N cap (at' + PN) 0 sa T a _ R4 rfl hq).mono ?_
                rintro e w6 ⟨rfl, q6, rfl⟩
                replace R4 := R4.drewN q6
                have HB6 := hide (below_drewN HB4.out q6)
                clear HB4
                generalize w4.drewN q6 = w6 at *
                go_wp2_with fail
                go_roundw
                case rel => exact ⟨k + 1, at' + PN, false, 0, by rw [hq], rfl, by go_num, by omega, R4, .inl ⟨rfl, rfl, HN'.out⟩, HB6⟩
                case measure => simp [intOf]; omega
              · have hm : Miss o T at' 0 := .inr ⟨rfl, N - at', by omega, HMs.out (by omega)⟩
                have hdec : decide ((N : Int) < (at' : Int) + ((putL o).length : Int)) = true := decide_eq_true (by omega)
                clear HH HMs HN
                have HMF : Hid (missF 0 = 11) := rfl
                go_wp2_with fail
                refine (got_miss o hok hs b N cap at' 0 sa T a _ R hm).mono ?_
                rintro e w4 ⟨rfl, T4, R4⟩
                rw [HMF.out] at R4
                have HB4 := hide (T4.below hbw HB5.out)
                clear T4 R HB5 d0 d1 d2 d3 hm HMF
                go_wp2_with fail
                refine (stands_any 11 _ b N cap at' 11 sa T a _ R4 rfl rfl).mono ?_
                rintro e w6 ⟨rfl, q6, rfl⟩
                replace R4 := R4.drewN q6
                have HB6 := hide (below_drewN HB4.out q6)
                clear HB4
                generalize w4.drewN q6 = w6 at *
                go_wp2_with fail
                go_roundw
                case rel => exact ⟨k + 1, at', true, 11, rfl, rfl, by go_num, by omega, R4, .inr ⟨rfl, rfl⟩, HB6⟩
                case measure => simp [intOf]; omega
            · have hm : Miss o T at' 11 := .inl (by decide)
              clear HH HMs HN
              have HMF : Hid (missF 11 = 11) := rfl
              go_wp2_with fail
              refine (got_miss o hok hs b N cap at' 11 sa T a _ R hm).mono ?_
              rintro e w4 ⟨rfl, T4, R4⟩
              rw [HMF.out] at R4
              have HB4 := hide (T4.below hbw HB5.out)
              clear T4 R HB5 d0 d1 d2 d3 hm HMF
              go_wp2_with fail
              refine (stands_any 11 _ b N cap at' 11 sa T a _ R4 rfl rfl).mono ?_
              rintro e w6 ⟨rfl, q6, rfl⟩
              replace R4 := R4.drewN q6
              have HB6 := hide (below_drewN HB4.out q6)
              clear HB4
              generalize w4.drewN q6 = w6 at *
              go_wp2_with fail
              go_roundw
              case rel => exact ⟨k + 1, at', true, 11, rfl, rfl, by go_num, by omega, R4, .inr ⟨rfl, rfl⟩, HB6⟩
              case measure => simp [intOf]; omega
          · have HX : Hid (Meth (.int .i64 0) (rB 255 T at') at' f = (.int .i64 0, at', 11)) := by
              rcases hst with ⟨_, rfl, hat⟩ | ⟨_, rfl⟩
              · have h1 := HFull.out k hlt
                have h2 := HTl.out
                rw [← hat] at h1
                exact meth_err (i := 0) (by unfold rB; rw [if_pos (by omega)])
              · exact meth_broken (by decide)
            have HCl : Hid (closeF N at' 11 = 11) := closes (by decide)
            clear hst HFull HHit HMiss HAt HPre HLe HNx
            go_wp2_with fail
            refine (mByte.any 255 b N cap at' f sa T a _ R).mono ?_
            rintro e w4 ⟨rfl, T4, R4⟩
            rw [HX.out] at R4 ⊢
            have HB4 := hide (T4.below hbw HB3.out)
            clear T4 R HB3
            go_wp2_with fail
            refine (leftR_any b N cap at' 11 sa T a _ R4).mono ?_
            rintro e w5 ⟨rfl, q5, rfl⟩
            replace R4 := R4.drewN q5
            have HB5 := hide (below_drewN HB4.out q5)
            clear HB4
            generalize w4.drewN q5 = w5 at *
            go_wp2_with fail
            refine (close_any b N cap at' 11 sa T a _ R4).mono ?_
            rintro e w6 ⟨rfl, T6, R6⟩
            rw [HCl.out] at R6 ⊢
            have HB6 := hide (T6.below hbw HB5.out)
            clear T6 R4 HB5
            go_wp2_with (first | (go_at_call 13; refine (num_any _ _).mono ?_; rintro e w' ⟨rfl, rfl⟩) | (go_at_call 23; refine (stands_any 11 _ b N cap at' 11 sa T a _ R6 rfl rfl).mono ?_; rintro e w' ⟨rfl, q7, rfl⟩))
            go_ret
            exact ⟨rfl, below_drewN HB6.out q7⟩

set_option maxRecDepth 100000 in
/-- For every argument and every world that holds the sentinels. -/
theorem contract (H : Type) (enc : TypeId × Value → H) (W : World) (base : Nat) (args : Array Value) (ds gs : List (DataW H)) (before : List MemPlace)
    (hval : ∀ (j : Nat) t v, Tryd.f6.params[j]? = some t → args[j]? = some v → Value.okWide Tryd.prog W .any base t v)
    (hW : DataW.Whole enc Tryd.prog Tryd.f6.params.toList Rows.wireCutSpec.vars false W args.toList ds gs before)
    (hsz : (DataW.weightsEach Tryd.prog (Tryd.f6.params.toList ++ (Rows.OpenSpec.upto Rows.wireCutSpec).bare.plain.varTypes Tryd.prog) (ds ++ gs)).all (· ≤ reachBytes) = true)
    (hup : Rows.uptoSmall H (ds ++ gs) = true)
    (hL : laidMetH Tryd.prog Rows.wireCutUptoRow.laid W) :
    Calls Tryd.prog 6 args W fun e W' => ∃ v, e = .returned v ∧ Rows.wireCutSpec.post enc Tryd.prog Tryd.f6 false true false false W args v W' := by
  have hW' := hW
  obtain ⟨p, q, hA0, hV, rfl, hfz, hnd⟩ := hW
  have hA : DataW.TrodAll enc Tryd.prog W 0 (fun _ => true) true Tryd.f6.params.toList args.toList ds p := hA0
  rw [Tryd.params6] at hA hval hsz
  obtain ⟨v0, vs0, d0, ds0, p0, q0, hargs, rfl, rfl, h0, r0⟩ := trodAll_cons hA
  obtain ⟨v1, vs1, d1, ds1, p1, q1, rfl, rfl, rfl, h1, r1⟩ := trodAll_cons r0
  obtain ⟨rfl, rfl, rfl⟩ := trodAll_nil r1
  obtain rfl : args = #[v0, v1] := by cases args; simp_all
  obtain ⟨rfl, rfl⟩ := trodVars_none hV
  obtain ⟨a0, n0, cap0, rfl⟩ := okWide_slice Tryd.underlying43 (hval 0 43 v0 rfl rfl)
  have k0 := h0
  have lt0 : ∀ x ∈ p0, x.block < W.heap.size := by obtain ⟨m, hm⟩ := k0; exact DataW.trod_lt m _ _ _ hm
  obtain ⟨fuel0, hf0⟩ := h0
  obtain ⟨l0, hseg0, hbulk0⟩ := open_items hf0
  obtain ⟨y1, rfl, rfl, rfl, w1⟩ := open_int Tryd.underlying3 (hval 1 3 v1 rfl rfl) h1
  obtain ⟨a, hE⟩ := errs_of_laid hL
  clear hA0
  have b1 := bounds_i64 w1
  have hup' : Rows.uptoBulk d0 + (1 + 0) ≤ 1048576 := of_decide_eq_true hup
  have hb0 : heft l0 ≤ Rows.uptoBulk d0 := hbulk0
  refine (walk a0 n0 cap0 l0 y1 a W hseg0 (by omega) ⟨by omega, by omega⟩ hE).mono fun e W' ⟨he, bel⟩ => ?_
  subst he
  exact ⟨_, rfl, _, _, _, [], _, [], hW', trodAll_mk1 (shut_bool Tryd.underlying4 _), (trodAll_cons_mk (Below.trod laidOut (by kernel_rfl) (of_decide_eq_true (by kernel_rfl)) k0 bel lt0) (trodAll_cons_mk (shut_int Tryd.underlying3 w1) trodAll_mk0)), rfl, bel.frame _, fun h => by cases h⟩

theorem reads (os : Os) {H : Type} (enc : TypeId × Value → H) : ∃ places, DataW.whole enc Tryd.prog ((World.doorLaid Tryd.prog 104 os).forCall (fun _ _ => 0) ⟨#[], #[.slice none 0 0, .int .i64 0], []⟩).memory Tryd.f6.params.toList Rows.wireCutSpec.vars false #[Value.slice none 0 0, .int .i64 0].toList 8 = some ([.nil, .lit (.int .i64 0)], [], places) :=
  ⟨[], by kernel_rfl⟩

set_option maxRecDepth 100000 in
theorem lifted (os : Os) (started : os.Started) (H : Type) (enc : TypeId × Value → H) (F : Stop.Interp) :
    ReturnsInHanded {} Tryd.checked os 6 .any ((Rows.OpenSpec.upto Rows.wireCutSpec).preRow enc Tryd.prog Tryd.f6 Rows.wireCutUptoRow.domain false Rows.wireCutUptoRow.laid) (((Rows.OpenSpec.upto Rows.wireCutSpec).at F).post enc Tryd.prog Tryd.f6 false true false false) := by
  obtain ⟨places, hx⟩ := reads os enc
  refine returnsInHanded_of_row (C := Tryd.checked) (s := (Rows.OpenSpec.upto Rows.wireCutSpec)) own started (by kernel_rfl) Tryd.func6
    (witness_row_atRef (enc := enc) (C := Tryd.checked) false (World.doorLaid Tryd.prog 104 os) #[.slice none 0 0, .int .i64 0] rfl (by kernel_rfl) (by kernel_rfl) (by kernel_rfl)
      (OpenSpec.preRow_of_cond 8 hx (by kernel_rfl) (fun k hk => by cases hk; kernel_rfl) (by kernel_rfl) (door_met os _))) ?_
  intro W base args ds gs before hval hW _ hcond hsz hL _ _
  exact contract H enc W base args ds gs before hval hW hsz (hcond _ rfl) hL

theorem said : Rows.WireCutUptoSaid :=
  OpenClaim.holds_of_cond 6 Tryd.f6 rfl rfl rfl rfl rfl rfl rfl ⟨rfl, rfl, rfl, rfl, rfl⟩ rfl rfl rfl rfl rfl (by kernel_rfl) Tryd.func6 (by kernel_rfl)
    (of_decide_eq_true (by kernel_rfl)) (by unfold Func.isWrapper; first | (rw [if_pos (by decide +kernel)]; kernel_rfl) | (rw [if_neg (by decide +kernel)]; exact ⟨rfl, rfl⟩))
    (fun os started H enc _ F => by rw [OpenClaim.pre_eq_preRow]; exact lifted os started H enc F)

theorem plain (f : FuncId) (fn : Func) (hf : Tryd.pinned.checked.prog.funcNamed "moot/mootlaw1.WireCut" = some f) (hfn : Tryd.pinned.checked.prog.funcs[f]? = some fn) :
    true = Tryd.pinned.checked.prog.looks [] ∧ ∀ (j : Nat) t, fn.params[j]? = some t → Tryd.pinned.checked.prog.wantsStandIn t = false := by
  obtain rfl : f = 6 := Option.some.inj ((show Tryd.prog.funcNamed "moot/mootlaw1.WireCut" = some 6 by kernel_rfl).symm.trans hf) |>.symm
  obtain rfl : fn = Tryd.f6 := (Option.some.inj (Tryd.func6.symm.trans hfn)).symm
  refine ⟨by kernel_rfl, fun j t ht => ?_⟩
  rw [Tryd.params6] at ht
  have hm : t ∈ [43, 3] := by simpa using Array.mem_of_getElem? ht
  have hall : ([43, 3].all fun u => !Tryd.prog.wantsStandIn u) = true := by kernel_rfl
  exact (show Tryd.prog.wantsStandIn t = false by simpa using List.all_eq_true.1 hall t hm)

end wireCut
theorem wireCut_proved : Rows.WireCutUptoCardSaid :=
  Claim7.holds_tied_plain_at .later [] _ _ _ _ wireCut.said (fun _ h => by cases h) (by kernel_rfl) (fun _ h => by cases h) wireCutUpto_row_tie rfl ⟨rfl, rfl⟩ (by kernel_rfl) rfl wireCut.plain (by kernel_rfl)
#print axioms wireCut_proved
end Go.Proofs.YtifhbbljjalpfabDoor
