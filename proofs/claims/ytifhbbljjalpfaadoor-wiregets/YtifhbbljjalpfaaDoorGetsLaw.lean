/- Proved: for every list of bytes, WireGets answers true: GetUint and GetInt answer as the document's own do at each place of it, also when the same memory holds other bytes, and change nothing. The five sentinels of package wire are as the program's text lays them. -/
import Derived.Test.YtifhbbljjalpfaaDoorGets
import Derived.Test.YtifhbbljjalpfaaDoorRoom
import Derived.Test.YtifhbbljjalpfaaDoorSame
import Derived.Test.YtifhbbljjalpfaaDoorLaid
import Derived.Test.YtifhbbljjalpfaaDoorArgs
import Derived.Test.YtifhbbljjalpfaaDoorCards
import Derived.Test.YtifhbbljjalpfaaDoorTie
import Derived.Deep.DeepHandedRow
import Derived.Deep.DeepWitnessRowRef
import Derived.WalkSmall
namespace Go.Proofs.YtifhbbljjalpfaaDoor
namespace wireGets
open Go.ChangeShapes Go.WideShapes Go.ChangeAt Go.RowKit Go.Wire1

theorem seg_new3 (w : World) (x y z : Int) : Seg (w.alloc (.cells #[.int .u8 x, .int .u8 y, .int .u8 z] 5)) (some ⟨w.heap.size, 0, none⟩) 3 [x, y, z] := by
  refine ⟨rfl, by unfold maxLen; omega, fun _ => ⟨w.heap.size, 0, rfl, fun j hj => ?_⟩⟩
  rw [World.cell?_alloc_at _ _ _ _ rfl]
  rcases (by omega : j = 0 ∨ j = 1 ∨ j = 2) with rfl | rfl | rfl <;> rfl

theorem own_below {w w' : World} {B : Nat} {e : TypeId} {s : Nat} {v : Value} {n : Nat} {xs : List Value} {C : Nat} (h : w.ownsRow B e s v n xs) (hb : Below C w w') (hC : w.heap.size ≤ C) : w'.ownsRow B e s v n xs := by
  refine ⟨h.1, ?_⟩
  rcases h.2 with h2 | ⟨g, cap, cur, rfl, hB, hh, r⟩
  · exact .inl h2
  · exact .inr ⟨g, cap, cur, rfl, hB, by rw [hb.block g (by have := (Array.getElem?_eq_some_iff.1 hh).1; omega)]; exact hh, r⟩

/-- A row of bytes of our own, at its block. -/
def Mine (w : World) (B g N cap : Nat) (L : List Int) : Prop := w.ownsRow B 5 1 (.slice (some ⟨g, 0, none⟩) N cap) N (L.map (Value.int .u8)) ∧ L.length = N ∧ N ≤ cap ∧ cap ≤ maxLen ∧ B ≤ g

theorem mine_of {w : World} {B : Nat} {v : Value} {L : List Int} (h : w.ownsRow B 5 1 v L.length (L.map (Value.int .u8))) (hl : 0 < L.length) : ∃ g cap, v = .slice (some ⟨g, 0, none⟩) L.length cap ∧ Mine w B g L.length cap L := by
  rcases h.2 with ⟨_, h2⟩ | ⟨g, cap, cur, rfl, hB, hh, h3, h4, h5, h6⟩
  · omega
  · exact ⟨g, cap, rfl, h, rfl, h3, h4, hB⟩
theorem Mine.below {w w' : World} {B g N cap C : Nat} {L : List Int} (h : Mine w B g N cap L) (hb : Below C w w') (hC : w.heap.size ≤ C) : Mine w' B g N cap L := ⟨own_below h.1 hb hC, h.2⟩
theorem Mine.drewN {w : World} {B g N cap : Nat} {L : List Int} (h : Mine w B g N cap L) (q : Nat) : Mine (w.drewN q) B g N cap L := h
theorem Mine.seg {w : World} {B g N cap : Nat} {L : List Int} (h : Mine w B g N cap L) : Seg w (some ⟨g, 0, none⟩) N L := by
  obtain ⟨h1, rfl, h3, h4, _⟩ := h
  refine ⟨rfl, by omega, fun _ => ⟨g, 0, rfl, fun j hj => ?_⟩⟩
  rw [Nat.zero_add, h1.cellAt j (by omega)]
  simp [List.getElem?_eq_getElem hj]
theorem Mine.store {w : World} {B g N cap : Nat} {L : List Int} (h : Mine w B g N cap L) (k : Nat) (z : Int) : Mine (w.setCell ⟨g, k, none⟩ (.int .u8 z)) B g N cap (L.set k z) := by
  obtain ⟨h1, h2, h3⟩ := h
  exact ⟨by rw [List.map_set]; exact (h1.stored k _).1, by rw [List.length_set]; exact h2, h3⟩
theorem byt_set {L : List Int} (h : Byt L) (k : Nat) {z : Int} (hz : 0 ≤ z ∧ z < 256) : Byt (L.set k z) := fun y hy => (List.mem_or_eq_of_mem_set hy).elim (h y) (fun e => by rw [e]; exact hz)
theorem xor129 (z : Int) (h : 0 ≤ z ∧ z < 256) : 0 ≤ bits .xor .u8 z 129 ∧ bits .xor .u8 z 129 < 256 := by
  rw [u8_xor z 129 h.1 h.2 (by decide) (by decide)]
  have : z.toNat ^^^ (129 : Int).toNat < 2 ^ 8 := Nat.xor_lt_two_pow (by omega) (by decide)
  omega

set_option maxHeartbeats 4000000 in
set_option maxRecDepth 100000 in
theorem walk (ta : Option Addr) (tn tcap : Nat) (tl : List Int) (a : Nat → Addr) (w : World) (ht : Seg w ta tn tl) (hty : Byt tl) (hreach : tn ≤ 140737488351232) (he : Errs w a) :
    Calls Tryd.prog 5 #[.slice ta tn tcap] w fun e w' => e = .returned (.bool true) ∧ Below w.heap.size w w' := by
  have sH : Seg (w.alloc (.cells #[.int .u8 172, .int .u8 2, .int .u8 153] 5)) (some ⟨w.heap.size, 0, none⟩) 3 [172, 2, 153] := seg_new3 w 172 2 153
  have bH : Byt [172, 2, 153] := by intro z hz; simp at hz; omega
  have B0 : Below w.heap.size w (w.alloc (.cells #[.int .u8 172, .int .u8 2, .int .u8 153] 5)) := (Below.refl _ _).alloc (Nat.le_refl _) _
  have e0 := he.below B0 (Nat.le_refl _)
  have bR : Byt (tl ++ [161, 162, 163]) := byt_app hty (by intro z hz; simp at hz; omega)
  have HLen : Hid ((tl ++ [161, 162, 163]).length = tn + 3) := by show _ = _; rw [List.length_append, ht.1]; rfl
  go_enter Tryd.func5, Tryd.ntmps5
  go_wp2_with fail
  refine (gets_any 3 3 _ [172, 2, 153] a _ sH bH e0).mono ?_
  rintro e w1 ⟨rfl, hbel1⟩
  have B1 : Below w.heap.size w w1 := B0.trans (hbel1.mono B0.size)
  clear sH bH B0 e0 hbel1
  have t1 := ht.below B1 (Nat.le_refl _)
  go_wp2_with fail
  refine (room_any ta tn tcap tl _ t1 hreach).mono ?_
  rintro e w2 ⟨v, rfl, hown, hbel2⟩
  have B2 : Below w.heap.size w w2 := B1.trans (hbel2.mono B1.size)
  have t2 := t1.below hbel2 (Nat.le_refl _)
  have hs1 := B1.size
  clear hbel2 t1 B1
  generalize hLE : tl ++ [161, 162, 163] = L at *
  have HLE := hide hLE
  clear hLE
  have hLl : tn + 3 ≤ L.length ∧ L.length ≤ tn + 3 := by have := HLen.out; omega
  obtain ⟨g, cap, rfl, mL⟩ := mine_of hown (by omega)
  generalize w1.heap.size = BB at *
  have hgB : w.heap.size ≤ g := by have := mL.2.2.2.2; omega
  have hcapL := mL.2.2.1
  have hcapM := mL.2.2.2.1
  unfold maxLen at hcapM
  clear hown
  have HB2 := hide B2
  clear B2
  go_wp2_with fail
  go_loopw [5] (fun c wr => ∃ k : Nat, c = .int .i64 (k : Int) ∧ k ≤ tn + 1 ∧ Mine wr BB g L.length cap L ∧ Hid (Below w.heap.size w wr)) (fun c _ => tn + 1 - (intOf c).toNat)
  case atStart => exact ⟨0, rfl, Nat.zero_le _, mL, HB2⟩
  case round =>
    clear mL HB2 t2
    obtain ⟨k, rfl, hk, mL, HB2⟩ := hrel
    by_cases hlt : k ≤ tn
    · have sk := (mL.seg).mid (k := k) (m := tn - k) (by omega)
      have ec := he.below HB2.out (Nat.le_refl _)
      have bk := byt_take (byt_drop bR k) (tn - k)
      generalize (L.drop k).take (tn - k) = LK at *
      rw [Nat.zero_add] at sk
      go_wp2_with fail
      refine (gets_any _ _ _ LK a _ sk bk ec).mono ?_
      rintro e w3 ⟨rfl, hbel3⟩
      replace mL := mL.below hbel3 (Nat.le_refl _)
      have HB3 : Hid (Below w.heap.size w w3) := HB2.out.trans (hbel3.mono HB2.out.size)
      clear hbel3 HB2 sk ec
      go_wp2_with fail
      go_roundw
      case rel => exact ⟨k + 1, by go_num, by omega, mL, HB3⟩
      case measure => simp [intOf]; omega
    · have t2 := ht.below HB2.out (Nat.le_refl _)
      go_wp2_with fail
      refine (room_any ta tn tcap tl _ t2 hreach).mono ?_
      rintro e w4 ⟨v4, rfl, hown4, hbel4⟩
      replace mL := mL.below hbel4 (Nat.le_refl _)
      have HB4 : Hid (Below w.heap.size w w4) := HB2.out.trans (hbel4.mono HB2.out.size)
      clear hbel4 HB2 t2
      rw [HLE.out] at hown4
      obtain ⟨a4, cap4, rfl, _, _, s4⟩ := seg_own hown4
      have HS : Hid (sameB L L = true) := same_yes rfl
      clear hown4
      go_wp2_with fail
      refine (same_any _ _ _ _ _ _ L L _ mL.seg s4).mono ?_
      rintro e w5 ⟨rfl, q, rfl⟩
      rw [HS.out]
      replace mL := mL.drewN q
      have HB5 : Hid (Below w.heap.size w (w4.drewN q)) := below_drewN HB4.out q
      clear HB4 s4
      generalize w4.drewN q = w5 at *
      go_wp2_with fail
      go_loopw [6] (fun c wr => ∃ (k : Nat) (M : List Int), c = .int .i64 (k : Int) ∧ k ≤ tn ∧ Byt M ∧ Mine wr BB g L.length cap M ∧ Hid (Below w.heap.size w wr)) (fun c _ => tn - (intOf c).toNat)
      case atStart => exact ⟨0, L, rfl, Nat.zero_le _, bR, mL, HB5⟩
      case round =>
        clear mL HB5
        obtain ⟨k, M, rfl, hk, bM, mM, HB5⟩ := hrel
        by_cases hlt2 : k < tn
        · obtain ⟨b', o', e', hc'⟩ := mM.seg.2.2 (by omega)
          cases e'
          have hck := hc' k (by omega)
          rw [Nat.zero_add] at hck
          have hfr := mM.1.frozenAt k
          have hz := byt_at bM k
          have mM' := mM.store k (bits .xor .u8 (M.getD k 0) 129)
          have bM' := byt_set bM k (xor129 _ hz)
          clear hc' mM
          generalize M.getD k 0 = z at *
          generalize M.set k (bits .xor .u8 z 129) = M' at *
          go_wp2_with fail
          go_roundw
          case rel => exact ⟨k + 1, M', by go_num, by omega, bM', mM', HB5.out.setCell (p := ⟨_, k, none⟩) hgB _⟩
          case measure => simp [intOf]; omega
        · go_wp2_with fail
          go_loopw [3, 7] (fun b c wr => ∃ k : Nat, b = .bool true ∧ c = .int .i64 (k : Int) ∧ k ≤ tn + 1 ∧ Mine wr BB g L.length cap M ∧ Hid (Below w.heap.size w wr)) (fun _ c _ => tn + 1 - (intOf c).toNat)
          case atStart => exact ⟨0, rfl, rfl, Nat.zero_le _, mM, HB5⟩
          case round =>
            clear mM HB5
            obtain ⟨k, rfl, rfl, hk, mM, HB5⟩ := hrel
            by_cases hlt3 : k ≤ tn
            · have sk := (mM.seg).mid (k := k) (m := tn - k) (by omega)
              have ec := he.below HB5.out (Nat.le_refl _)
              have bk := byt_take (byt_drop bM k) (tn - k)
              generalize (M.drop k).take (tn - k) = LK at *
              rw [Nat.zero_add] at sk
              go_wp2_with fail
              refine (gets_any _ _ _ LK a _ sk bk ec).mono ?_
              rintro e w3 ⟨rfl, hbel3⟩
              replace mM := mM.below hbel3 (Nat.le_refl _)
              have HB6 : Hid (Below w.heap.size w w3) := HB5.out.trans (hbel3.mono HB5.out.size)
              clear hbel3 HB5 sk ec
              go_wp2_with fail
              go_roundw
              case rel => exact ⟨k + 1, rfl, by go_num, by omega, mM, HB6⟩
              case measure => simp [intOf]; omega
            · go_wp2_with fail
              go_ret
              exact ⟨rfl, HB5.out⟩

/-- For every argument and every world that holds the sentinels. -/
theorem contract (H : Type) (enc : TypeId × Value → H) (W : World) (base : Nat) (args : Array Value) (ds gs : List (DataW H)) (before : List MemPlace)
    (hval : ∀ (j : Nat) t v, Tryd.f5.params[j]? = some t → args[j]? = some v → Value.okWide Tryd.prog W .any base t v)
    (hW : DataW.Whole enc Tryd.prog Tryd.f5.params.toList Rows.wireGetsSpec.vars false W args.toList ds gs before)
    (hsz : (DataW.weightsEach Tryd.prog (Tryd.f5.params.toList ++ (OpenSpec.ofChange Rows.wireGetsSpec).bare.plain.varTypes Tryd.prog) (ds ++ gs)).all (· ≤ reachBytes) = true)
    (hL : laidMetH Tryd.prog Rows.wireGetsRow.laid W) :
    Calls Tryd.prog 5 args W fun e W' => ∃ v, e = .returned v ∧ Rows.wireGetsSpec.post enc Tryd.prog Tryd.f5 false true false false W args v W' := by
  have hW' := hW
  obtain ⟨p, q, hA0, hV, rfl, hfz, hnd⟩ := hW
  have hA : DataW.TrodAll enc Tryd.prog W 0 (fun _ => true) true Tryd.f5.params.toList args.toList ds p := hA0
  rw [Tryd.params5] at hA hval hsz
  obtain ⟨v0, vs0, d0, ds0, p0, q0, hargs, rfl, rfl, h0, r0⟩ := trodAll_cons hA
  obtain ⟨rfl, rfl, rfl⟩ := trodAll_nil r0
  obtain rfl : args = #[v0] := by cases args; simp_all
  obtain ⟨rfl, rfl⟩ := trodVars_none hV
  obtain ⟨a0, n0, cap0, rfl⟩ := okWide_slice Tryd.underlying23 (hval 0 23 v0 rfl rfl)
  have k0 := h0
  have lt0 : ∀ x ∈ p0, x.block < W.heap.size := by obtain ⟨m, hm⟩ := k0; exact DataW.trod_lt m _ _ _ hm
  obtain ⟨fuel0, hf0⟩ := h0
  obtain ⟨l0, hseg0, hbyt0, hcap0, hdat0⟩ := open_bytes hf0
  have hreach0 : cap0 ≤ 140737488351232 := by
    rcases hdat0 with ⟨_, _, h⟩ | ⟨elems, spare, hd, he, hc⟩
    · omega
    · have hs := sized_slice hsz (j := 0) (t := 23) (e := 5) (elems := elems) (spare := spare) rfl (by rw [show d0 = _ from hd]; rfl) Tryd.underlying23
      rw [bytes5] at hs
      simp only [reachBytes] at hs
      omega
  obtain ⟨a, hE⟩ := errs_of_laid hL
  clear hA0

  refine (walk a0 n0 cap0 l0 a W hseg0 hbyt0 (by omega) hE).mono fun e W' ⟨he, bel⟩ => ?_
  subst he
  exact ⟨_, rfl, _, _, _, [], _, [], hW', trodAll_mk1 (shut_bool Tryd.underlying4 _), (trodAll_cons_mk (Below.trod laidOut (by kernel_rfl) (of_decide_eq_true (by kernel_rfl)) k0 bel lt0) trodAll_mk0), rfl, bel.frame _, fun h => by cases h⟩

theorem reads (os : Os) {H : Type} (enc : TypeId × Value → H) : ∃ places, DataW.whole enc Tryd.prog ((World.doorLaid Tryd.prog 104 os).forCall (fun _ _ => 0) ⟨#[], #[.slice none 0 0], []⟩).memory Tryd.f5.params.toList Rows.wireGetsSpec.vars false #[Value.slice none 0 0].toList 8 = some ([.nil], [], places) :=
  ⟨[], by kernel_rfl⟩

set_option maxRecDepth 100000 in
theorem lifted (os : Os) (started : os.Started) (H : Type) (enc : TypeId × Value → H) (F : Stop.Interp) :
    ReturnsInHanded {} Tryd.checked os 5 .any ((OpenSpec.ofChange Rows.wireGetsSpec).preRow enc Tryd.prog Tryd.f5 Rows.wireGetsRow.domain false Rows.wireGetsRow.laid) (((OpenSpec.ofChange Rows.wireGetsSpec).at F).post enc Tryd.prog Tryd.f5 false true false false) := by
  obtain ⟨places, hx⟩ := reads os enc
  refine returnsInHanded_of_row (C := Tryd.checked) (s := (OpenSpec.ofChange Rows.wireGetsSpec)) own started (by kernel_rfl) Tryd.func5
    (witness_row_atRef (enc := enc) (C := Tryd.checked) false (World.doorLaid Tryd.prog 104 os) #[.slice none 0 0] rfl (by kernel_rfl) (by kernel_rfl) (by kernel_rfl)
      (OpenSpec.preRow_of_cond 8 hx (by kernel_rfl) (fun k hk => by cases hk) (by kernel_rfl) (door_met os _))) ?_
  intro W base args ds gs before hval hW _ hcond hsz hL _ _
  exact contract H enc W base args ds gs before hval hW hsz hL

theorem said : Rows.WireGetsSaid :=
  OpenClaim.holds_of_cond 5 Tryd.f5 rfl rfl rfl rfl rfl rfl rfl ⟨rfl, rfl, rfl, rfl, rfl⟩ rfl rfl rfl rfl rfl (by kernel_rfl) Tryd.func5 (by kernel_rfl)
    (of_decide_eq_true (by kernel_rfl)) (by unfold Func.isWrapper; first | (rw [if_pos (by decide +kernel)]; kernel_rfl) | (rw [if_neg (by decide +kernel)]; exact ⟨rfl, rfl⟩))
    (fun os started H enc _ F => by rw [OpenClaim.pre_eq_preRow]; exact lifted os started H enc F)

theorem plain (f : FuncId) (fn : Func) (hf : Tryd.pinned.checked.prog.funcNamed "moot/mootlaw1.WireGets" = some f) (hfn : Tryd.pinned.checked.prog.funcs[f]? = some fn) :
    true = Tryd.pinned.checked.prog.looks [] ∧ ∀ (j : Nat) t, fn.params[j]? = some t → Tryd.pinned.checked.prog.wantsStandIn t = false := by
  obtain rfl : f = 5 := Option.some.inj ((show Tryd.prog.funcNamed "moot/mootlaw1.WireGets" = some 5 by kernel_rfl).symm.trans hf) |>.symm
  obtain rfl : fn = Tryd.f5 := (Option.some.inj (Tryd.func5.symm.trans hfn)).symm
  refine ⟨by kernel_rfl, fun j t ht => ?_⟩
  rw [Tryd.params5] at ht
  have hm : t ∈ [23] := by simpa using Array.mem_of_getElem? ht
  have hall : ([23].all fun u => !Tryd.prog.wantsStandIn u) = true := by kernel_rfl
  exact (show Tryd.prog.wantsStandIn t = false by simpa using List.all_eq_true.1 hall t hm)

end wireGets
theorem wireGets_proved : Rows.WireGetsCardSaid :=
  Claim7.holds_tied_plain_at .later [] _ _ _ _ wireGets.said (fun _ h => by cases h) (by kernel_rfl) (fun _ h => by cases h) wireGets_row_tie rfl ⟨rfl, rfl⟩ (by kernel_rfl) rfl wireGets.plain (by kernel_rfl)
#print axioms wireGets_proved
end Go.Proofs.YtifhbbljjalpfaaDoor
