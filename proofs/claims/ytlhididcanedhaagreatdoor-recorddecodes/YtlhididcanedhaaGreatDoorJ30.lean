/- Texts of the proof, joined. -/
import Derived.Test.YtlhididcanedhaaGreatDoorJ02
import Derived.Laws.Tables
import Derived.Test.YtlhididcanedhaaGreatDoorRows
import Derived.Test.YtlhididcanedhaaGreatDoorJ07
import Derived.Deep.Cut
import Derived.Test.YtlhididcanedhaaGreatDoorJ29
import Derived.Test.YtlhididcanedhaaGreatDoorJ23
import Derived.Test.YtlhididcanedhaaGreatDoorJ09
/- A struct built of parts, some of many cells, as the walk meets it. -/
namespace Go.Proofs.YtlhididcanedhaaGreatDoor
open Go.RowKit Go.Wire1

theorem wpList_build {P : Program} {ops : Array Oper} {rest : List Oper} {op : Oper} {a : Act} {w : World} {Q : Exit → Act → World → Prop} (hgd : op.guard = none) (ty : TypeId) (parts : List (Nat × Operand)) (ho : op.op = .build ty parts.toArray)
    (vs : List (Nat × Value)) (hv : (parts.map fun p => (p.1, a.eval p.2)) = vs) (cells : Array Value) (hb : P.built ty vs = some cells) (h : wpList P ops Q rest (a.put op.dst (.agg cells)) w) : wpList P ops Q (op :: rest) a w :=
  wpList_plain hgd fun _ hK => by
    unfold Oper.wp execOp
    have e : (parts.toArray.map fun (x : Nat × Operand) => match x with | (i, x) => (i, a.eval x)) = vs.toArray := by rw [← hv]; simp
    simp only [ho]
    rw [e]
    simp only [Sem.run_bind, Sem.run_pure, Result.andThen_ok, run_build w ty vs.toArray cells (by simpa using hb)]
    exact hK _ _ h
end Go.Proofs.YtlhididcanedhaaGreatDoor
/- The contracts of the statements' own plain and num; one record stored into a box. -/
namespace Go.Proofs.YtlhididcanedhaaGreatDoor
open Go.RowKit Go.Wire1

def zeroL : List Value := [.int .i64 0, .int .i64 0, .int .i64 0, .int .i64 0, .int .i64 0, .bool false, .int .i64 0, .int .i64 0, .int .i64 0, .string ⟨#[]⟩, .string ⟨#[]⟩, .string ⟨#[]⟩, .string ⟨#[]⟩, .int .i64 0, .int .i64 0, .slice none 0 0, .int .i64 0, .int .i64 0]
/-- A Committed Get among three; its Deps lie in block b. -/
def plainR (b : Nat) : Rc := ⟨5, 0, 1, 0, 0, false, ⟨1, 0, 0, ⟨#[107]⟩, ⟨#[]⟩, ⟨#[]⟩, ⟨#[]⟩, 0⟩, 3, some ⟨b, 0, none⟩, 3, 3, [0, 5, 5], 0, 0⟩
theorem plain_chk (b : Nat) : chkR 3 (plainR b) = 0 := by kernel_rfl
set_option maxHeartbeats 1000000 in
set_option maxRecDepth 100000 in
theorem num6_any (e : Int) (w : World) :
    Calls Tryz.prog 9 #[.int .i64 e] w fun e' w' => e' = .returned (.int .i64 e) ∧ w = w' := by
  go_enter Tryz.func9, Tryz.ntmps9
  go_wp2
  go_ret
  exact ⟨rfl, rfl⟩
/-- A box of a record, laid with zeros and then stored. -/
theorem box_stored {w U W : World} {q : Nat} {cs vs : List Value} (h : Blk U q cs) (hl : vs.length = cs.length) (hb : Below w.heap.size w U) (hq : w.heap.size ≤ q) (e : W = U.setCells q 0 vs) : Blk W q vs ∧ Below w.heap.size w W := by
  subst e
  exact ⟨blk_cells h hl, below_cells hq _ _ _ hb⟩

set_option maxHeartbeats 4000000 in
set_option maxRecDepth 100000 in
theorem plain6_any (w : World) :
    Calls Tryz.prog 6 #[] w fun e w' => e = .returned (.agg (rcs (plainR (w.heap.size + 1))).toArray) ∧ SegI w' (some ⟨w.heap.size + 1, 0, none⟩) 3 [0, 5, 5] ∧ Below w.heap.size w w' := by
  obtain ⟨U, hU⟩ : ∃ U, U = w.alloc (.cells zeroL.toArray 30) := ⟨_, rfl⟩
  obtain ⟨W, hW⟩ : ∃ W, W = U.alloc (.cells #[.int .i64 0, .int .i64 5, .int .i64 5] 3) := ⟨_, rfl⟩
  have hs : U.heap.size = w.heap.size + 1 := by rw [hU]; simp
  have BW : Hid (Below w.heap.size w W) := by rw [hW, hU]; exact ((Below.refl _ w).alloc (Nat.le_refl _) _).alloc (by simp) _
  have QM : Hid (Blk W w.heap.size zeroL) := by rw [hW, hU]; exact (blk_new w 30 zeroL).on ((Below.refl _ _).alloc (Nat.le_refl _) _)
  have SG : Hid (SegI W (some ⟨w.heap.size + 1, 0, none⟩) 3 [0, 5, 5]) := by
    rw [hW]
    exact segI_lit [0, 5, 5] (fit_of (by intro x hx; simp only [List.mem_cons, List.not_mem_nil, or_false] at hx; omega)) (by unfold maxLen; decide) rfl hs.symm rfl
  have TH : Hid (W.there w.heap.size 0 18) := QM.out.there
  obtain ⟨X, hX⟩ : ∃ X, X = W.setCells w.heap.size 0 (rcs (plainR (w.heap.size + 1))) := ⟨_, rfl⟩
  have R := hide (box_stored QM.out (by rfl) BW.out (Nat.le_refl _) hX)
  have SX : Hid (SegI X (some ⟨w.heap.size + 1, 0, none⟩) 3 [0, 5, 5]) := by
    have h := SG.out
    refine ⟨h.1, h.2.1, fun hn => ?_, h.2.2.2⟩
    obtain ⟨b, off, e, hc⟩ := h.2.2.1 hn
    refine ⟨b, off, e, fun j hj => ?_⟩
    injection e with e
    injection e with e1 e2 e3
    rw [hX, World.cell?_setCells_out _ _ _ _ _ (fun hb _ => by exfalso; simp only at hb; omega)]
    exact hc j hj
  go_enter Tryz.func6, Tryz.ntmps6
  go_upto_region 1 with fail
  have eU : w.alloc (.cells #[.int .i64 0, .int .i64 0, .int .i64 0, .int .i64 0, .int .i64 0, .bool false, .int .i64 0, .int .i64 0, .int .i64 0, .string ⟨#[]⟩, .string ⟨#[]⟩, .string ⟨#[]⟩, .string ⟨#[]⟩, .int .i64 0, .int .i64 0, .slice none 0 0, .int .i64 0, .int .i64 0] 30) = U := hU.symm
  rw [eU]
  have HW := hide hW
  have HX := hide hX
  clear hU eU hW hX
  go_wp2_with (first | (refine wpList_store_mid rfl 30 _ _ rfl w.heap.size 0 (rcs (plainR (w.heap.size + 1))).toArray rfl rfl (by rw [← HW.out]; exact TH.out) (by kernel_rfl) (by kernel_rfl) ?_))
  rw [← HW.out, ← HX.out]
  refine bodyPost_ret (results_cell_mid Tryz.results6 _ _ w.heap.size (rcs (plainR (w.heap.size + 1))) _ rfl R.out.1.range Tryz.underlying30 rfl (by kernel_rfl)) rfl ⟨rfl, SX.out, R.out.2⟩
end Go.Proofs.YtlhididcanedhaaGreatDoor
/- The contract of package record's Decode. -/
namespace Go.Proofs.YtlhididcanedhaaGreatDoor
open Go.RowKit Go.Wire1

def decR (n : Int) (l : List Int) : Rc × Int := if isSizeB n then (if (rdRec n.toNat l).2 = 0 then ((rdRec n.toNat l).1, 0) else (zeroRc, (rdRec n.toNat l).2)) else (zeroRc, 3)
theorem results_cell_tmp {P : Program} {fn : Func} {p q : Tmp} {ty : TypeId} (h : fn.results = #[.cell p ty, .tmp q]) (tmps : Array Value) (w : World) (b : Nat) (cs : List Value) (d : TypeDesc) (x : Value) (ht : tmps[p]?.getD undef = .pointer (some ⟨b, 0, none⟩)) (hq : tmps[q]?.getD undef = x)
    (hc : w.rangeAt b 0 cs) (hu : P.underlying ty = some d) (hd : d.isRow = true) (hi : (P.info? ty).map (·.size) = some cs.length) : (results fn tmps).run P w = .ok (.tuple #[.agg cs.toArray, x]) w := by
  have hl := run_loadVar_mid (P := P) w b 0 ty cs d hc hu hd hi
  simp [results, h, ht, asAddr, hl, hq]
theorem built_none : Tryz.prog.built 30 [] = some (rcs zeroRc).toArray := by kernel_rfl
theorem built_reader (k : Int) (b : Option Addr) (n c : Nat) : Tryz.prog.built 66 [(0, Value.int .i64 k), (1, Value.slice b n c)] = some ([.int .i64 k, Value.slice b n c] ++ rcs zeroRc).toArray := by kernel_rfl
theorem seg_none (w : World) : SegI w none 0 [] := ⟨rfl, by unfold maxLen; omega, fun h => by omega, fun j => by simp⟩

set_option maxHeartbeats 8000000 in
set_option maxRecDepth 100000 in
theorem rdec_size (n : Int) (sa : Option Addr) (m cap : Nat) (w : World) (hn : isSizeB n = false) :
    Calls Tryz.prog 11 #[.int .i64 n, .slice sa m cap] w fun e w' => e = .returned (.tuple #[.agg (rcs zeroRc).toArray, .int .i64 3]) ∧ Below w.heap.size w w' := by
  obtain ⟨V, hV⟩ : ∃ V, V = w.alloc (.cells #[.int .i64 0, .int .i64 0, .int .i64 0, .int .i64 0, .int .i64 0, .bool false, .int .i64 0, .int .i64 0, .int .i64 0, .string ⟨#[]⟩, .string ⟨#[]⟩, .string ⟨#[]⟩, .string ⟨#[]⟩, .int .i64 0, .int .i64 0, .slice none 0 0, .int .i64 0, .int .i64 0] 30) := ⟨_, rfl⟩
  have QV : Hid (Blk V w.heap.size [.int .i64 0, .int .i64 0, .int .i64 0, .int .i64 0, .int .i64 0, .bool false, .int .i64 0, .int .i64 0, .int .i64 0, .string ⟨#[]⟩, .string ⟨#[]⟩, .string ⟨#[]⟩, .string ⟨#[]⟩, .int .i64 0, .int .i64 0, .slice none 0 0, .int .i64 0, .int .i64 0]) := by rw [hV]; exact blk_new w 30 [.int .i64 0, .int .i64 0, .int .i64 0, .int .i64 0, .int .i64 0, .bool false, .int .i64 0, .int .i64 0, .int .i64 0, .string ⟨#[]⟩, .string ⟨#[]⟩, .string ⟨#[]⟩, .string ⟨#[]⟩, .int .i64 0, .int .i64 0, .slice none 0 0, .int .i64 0, .int .i64 0]
  have BV : Hid (Below w.heap.size w V) := by rw [hV]; exact (Below.refl _ _).alloc (Nat.le_refl _) _
  have TH : Hid (V.there w.heap.size 0 18) := QV.out.there
  obtain ⟨X, hX⟩ : ∃ X, X = V.setCells w.heap.size 0 (rcs zeroRc) := ⟨_, rfl⟩
  have RX := hide (box_stored QV.out (by rfl) BV.out (Nat.le_refl _) hX)
  have HX := hide hX
  clear hX
  go_enter Tryz.func11, Tryz.ntmps11
  go_upto_region 1 with fail
  rw [← hV]
  clear hV
  go_wp2_with fail
  refine (risSize_any n _).mono ?_
  rintro e w1 ⟨rfl, rfl⟩
  rw [hn]
  clear hn
  go_wp2_with (first | (refine wpList_build rfl 30 _ rfl [] rfl _ built_none ?_) | (refine wpList_store_mid rfl 30 _ _ rfl w.heap.size 0 (rcs zeroRc).toArray rfl rfl TH.out (by kernel_rfl) (by kernel_rfl) ?_))
  rw [show V.setCells w.heap.size 0 (rcs zeroRc).toArray.toList = X from HX.out.symm]
  exact bodyPost_ret (results_cell_tmp Tryz.results11 _ _ w.heap.size (rcs zeroRc) _ _ rfl rfl RX.out.1.range Tryz.underlying30 rfl (by kernel_rfl)) rfl ⟨rfl, RX.out.2⟩

set_option maxHeartbeats 8000000 in
set_option maxRecDepth 100000 in
/-- Decode, at every input; the Deps that it gives are new memory. -/
theorem rdec_new (n : Int) (sa : Option Addr) (m cap : Nat) (l : List Int) (a : Nat → Addr) (w : World) (hs : Seg w sa m l) (hsrc : Src sa m cap) (hy : Byt l) (he : Errs w a) (hK : Knd w) (hR : Rws w) :
    Calls Tryz.prog 11 #[.int .i64 n, .slice sa m cap] w fun e w' => ∃ rr, e = .returned (.tuple #[.agg (rcs rr).toArray, .int .i64 (decR n l).2]) ∧ er rr = er (decR n l).1 ∧ SegI w' rr.da rr.dn rr.deps ∧ Below w.heap.size w w' ∧ ∀ x, rr.da = some x → 0 < rr.dn → w.heap.size ≤ x.block := by
  cases hn : isSizeB n with
  | false =>
    have E : decR n l = (zeroRc, 3) := by unfold decR; rw [hn]; rfl
    rw [E]
    exact (rdec_size n sa m cap w hn).mono fun e w' ⟨h1, h2⟩ => ⟨zeroRc, h1, rfl, seg_none w', h2, fun _ hx _ => by cases hx⟩
  | true =>
    obtain ⟨k, hkk, h1, h7⟩ := size_nat hn
    subst hkk
    obtain ⟨er0, her0⟩ : ∃ e0, Hid ((rdRec k l).2 = e0) := ⟨_, rfl⟩
    have E : Hid (decR (k : Int) l = if er0 = 0 then ((rdRec k l).1, 0) else (zeroRc, er0)) := by
      show _ = _
      unfold decR
      rw [hn, if_pos rfl, show ((k : Int)).toNat = k from rfl, her0.out]
    obtain ⟨D, hD⟩ : ∃ D, Hid (decR (k : Int) l = D) := ⟨_, rfl⟩
    rw [hD.out]
    have HSeg := hide hs
    have HSrc := hide hsrc
    have HY := hide hy
    have HE := hide he
    have HK := hide hK
    have HW := hide hR
    obtain ⟨V, hV⟩ : ∃ V, V = w.alloc (.cells #[.int .i64 0, .int .i64 0, .int .i64 0, .int .i64 0, .int .i64 0, .bool false, .int .i64 0, .int .i64 0, .int .i64 0, .string ⟨#[]⟩, .string ⟨#[]⟩, .string ⟨#[]⟩, .string ⟨#[]⟩, .int .i64 0, .int .i64 0, .slice none 0 0, .int .i64 0, .int .i64 0] 30) := ⟨_, rfl⟩
    have QV : Hid (Blk V w.heap.size [.int .i64 0, .int .i64 0, .int .i64 0, .int .i64 0, .int .i64 0, .bool false, .int .i64 0, .int .i64 0, .int .i64 0, .string ⟨#[]⟩, .string ⟨#[]⟩, .string ⟨#[]⟩, .string ⟨#[]⟩, .int .i64 0, .int .i64 0, .slice none 0 0, .int .i64 0, .int .i64 0]) := by rw [hV]; exact blk_new w 30 [.int .i64 0, .int .i64 0, .int .i64 0, .int .i64 0, .int .i64 0, .bool false, .int .i64 0, .int .i64 0, .int .i64 0, .string ⟨#[]⟩, .string ⟨#[]⟩, .string ⟨#[]⟩, .string ⟨#[]⟩, .int .i64 0, .int .i64 0, .slice none 0 0, .int .i64 0, .int .i64 0]
    have BV : Hid (Below w.heap.size w V) := by rw [hV]; exact (Below.refl _ _).alloc (Nat.le_refl _) _
    have hVs : V.heap.size = w.heap.size + 1 := by rw [hV]; simp
    obtain ⟨U, hU⟩ : ∃ U, U = V.alloc (.cells #[.int .i64 0, .slice none 0 0, .int .i64 0, .int .i64 0, .int .i64 0, .int .i64 0, .int .i64 0, .bool false, .int .i64 0, .int .i64 0, .int .i64 0, .string ⟨#[]⟩, .string ⟨#[]⟩, .string ⟨#[]⟩, .string ⟨#[]⟩, .int .i64 0, .int .i64 0, .slice none 0 0, .int .i64 0, .int .i64 0] 66) := ⟨_, rfl⟩
    have QU : Hid (Blk U V.heap.size [.int .i64 0, .slice none 0 0, .int .i64 0, .int .i64 0, .int .i64 0, .int .i64 0, .int .i64 0, .bool false, .int .i64 0, .int .i64 0, .int .i64 0, .string ⟨#[]⟩, .string ⟨#[]⟩, .string ⟨#[]⟩, .string ⟨#[]⟩, .int .i64 0, .int .i64 0, .slice none 0 0, .int .i64 0, .int .i64 0]) := by rw [hU]; exact blk_new V 66 [.int .i64 0, .slice none 0 0, .int .i64 0, .int .i64 0, .int .i64 0, .int .i64 0, .int .i64 0, .bool false, .int .i64 0, .int .i64 0, .int .i64 0, .string ⟨#[]⟩, .string ⟨#[]⟩, .string ⟨#[]⟩, .string ⟨#[]⟩, .int .i64 0, .int .i64 0, .slice none 0 0, .int .i64 0, .int .i64 0]
    have BU : Hid (Below V.heap.size V U) := by rw [hU]; exact (Below.refl _ _).alloc (Nat.le_refl _) _
    have TU : Hid (U.there V.heap.size 0 20) := QU.out.there
    obtain ⟨X, hX⟩ : ∃ X, X = U.setCells V.heap.size 0 ([.int .i64 (k : Int), Value.slice sa m cap] ++ rcs zeroRc) := ⟨_, rfl⟩
    have RX := hide (box_stored (w := V) QU.out (by rfl) BU.out (Nat.le_refl _) hX)
    have BX : Hid (Below w.heap.size w X) := BV.out.trans (RX.out.2.mono (by omega))
    have QX : Hid (Blk X w.heap.size [.int .i64 0, .int .i64 0, .int .i64 0, .int .i64 0, .int .i64 0, .bool false, .int .i64 0, .int .i64 0, .int .i64 0, .string ⟨#[]⟩, .string ⟨#[]⟩, .string ⟨#[]⟩, .string ⟨#[]⟩, .int .i64 0, .int .i64 0, .slice none 0 0, .int .i64 0, .int .i64 0]) := QV.out.on RX.out.2
    obtain ⟨g, hg⟩ : ∃ g, Hid (V.heap.size = g) := ⟨_, rfl⟩
    have hwg : Hid (w.heap.size < g) := by rw [← hg.out, hVs]; exact hide (Nat.lt_succ_self _)
    rw [hg.out] at TU RX
    have SX : Hid (Rsx w X g k l zeroRc) := ⟨sa, m, cap, ⟨RX.out.1, BX.out, by have := hwg.out; omega, HSeg.out, HSrc.out, HY.out, seg_none X, fun x hx => by cases hx⟩⟩
    have HX : Hid (U.setCells g 0 ([.int .i64 (k : Int), Value.slice sa m cap] ++ rcs zeroRc) = X) := by rw [← hg.out]; exact hX.symm
    have HU := hide hU
    have HN := hide hn
    clear hX hU hs hsrc hy he hK hR hVs QU BU
    go_enter Tryz.func11, Tryz.ntmps11
    go_upto_region 1 with fail
    rw [← hV]
    clear hV
    go_wp2_with fail
    refine (risSize_any (k : Int) _).mono ?_
    rintro e w1 ⟨rfl, rfl⟩
    rw [HN.out]
    have TU' : Hid ((V.alloc (.cells #[.int .i64 0, .slice none 0 0, .int .i64 0, .int .i64 0, .int .i64 0, .int .i64 0, .int .i64 0, .bool false, .int .i64 0, .int .i64 0, .int .i64 0, .string ⟨#[]⟩, .string ⟨#[]⟩, .string ⟨#[]⟩, .string ⟨#[]⟩, .int .i64 0, .int .i64 0, .slice none 0 0, .int .i64 0, .int .i64 0] 66)).there V.heap.size 0 20) := by rw [hg.out, ← HU.out]; exact TU.out
    go_upto_region 4 with (first | (refine wpList_build rfl 66 _ rfl [(0, Value.int .i64 (k : Int)), (1, Value.slice sa m cap)] rfl _ (built_reader _ _ _ _) ?_) | (refine wpList_store_mid rfl 66 _ _ rfl V.heap.size 0 (([.int .i64 (k : Int), Value.slice sa m cap] ++ rcs zeroRc)).toArray rfl rfl TU'.out (by kernel_rfl) (by kernel_rfl) ?_))
    rw [← HU.out, hg.out, show U.setCells g 0 (([.int .i64 (k : Int), Value.slice sa m cap] ++ rcs zeroRc)).toArray.toList = X from HX.out]
    go_wp2_with fail
    refine (rrecord_any w g k l a _ HE.out HK.out HW.out SX.out h1 h7).mono ?_
    rintro e w2 ⟨rr, l', rfl, T2, S2, hrr⟩
    rw [her0.out]
    have Q2 : Hid (Blk w2 w.heap.size [.int .i64 0, .int .i64 0, .int .i64 0, .int .i64 0, .int .i64 0, .bool false, .int .i64 0, .int .i64 0, .int .i64 0, .string ⟨#[]⟩, .string ⟨#[]⟩, .string ⟨#[]⟩, .string ⟨#[]⟩, .int .i64 0, .int .i64 0, .slice none 0 0, .int .i64 0, .int .i64 0]) := QX.out.of_block (T2.block _ QX.out.lt (by have := hwg.out; omega))
    have TH2 : Hid (w2.there w.heap.size 0 18) := Q2.out.there
    have B2 : Hid (Below w.heap.size w w2) := S2.low
    obtain ⟨sb, mb, cb, S2⟩ := S2
    have HS2 := hide S2
    have HRR := hide hrr
    clear T2 S2 hrr
    by_cases h0 : er0 = 0
    · subst h0
      have EE : Hid (D = ((rdRec k l).1, 0)) := by show _ = _; rw [← hD.out, E.out]; rfl
      obtain ⟨Y, hY⟩ : ∃ Y, Y = w2.setCells w.heap.size 0 (rcs rr) := ⟨_, rfl⟩
      have RY := hide (box_stored (w := w) Q2.out (by rfl) B2.out (Nat.le_refl _) hY)
      have SY : Hid (SegI Y rr.da rr.dn rr.deps) := by
        have h := HS2.out.dep
        refine ⟨h.1, h.2.1, fun hn => ?_, h.2.2.2⟩
        obtain ⟨b, off, e, hc⟩ := h.2.2.1 hn
        refine ⟨b, off, e, fun j hj => ?_⟩
        rw [hY, World.cell?_setCells_out _ _ _ _ _ (fun hb _ => by
          exfalso
          simp only at hb
          have hh := HS2.out.far _ e hn
          have hw := hwg.out
          simp only at hh
          omega)]
        exact hc j hj
      have HYY := hide hY
      clear hY
      go_wp2_with (first | (refine wpList_load_mid rfl 30 _ rfl g 2 rfl (rcs rr) _ HS2.out.range Tryz.underlying30 rfl (by kernel_rfl) ?_) | (refine wpList_store_mid rfl 30 _ _ rfl w.heap.size 0 (rcs rr).toArray rfl rfl TH2.out (by kernel_rfl) (by kernel_rfl) ?_))
      rw [show w2.setCells w.heap.size 0 (rcs rr).toArray.toList = Y from HYY.out.symm]
      exact bodyPost_ret (results_cell_tmp Tryz.results11 _ _ w.heap.size (rcs rr) _ _ rfl rfl RY.out.1.range Tryz.underlying30 rfl (by kernel_rfl)) rfl ⟨rr, by rw [EE.out]; rfl, by rw [EE.out]; exact HRR.out, SY.out, RY.out.2, fun x hx h0 => by have := HS2.out.far x hx h0; have := hwg.out; omega⟩
    · have EE : Hid (D = (zeroRc, er0)) := by show _ = _; rw [← hD.out, E.out, if_neg h0]
      have hne : (er0 != 0) = true := by simpa using h0
      obtain ⟨Y, hY⟩ : ∃ Y, Y = w2.setCells w.heap.size 0 (rcs zeroRc) := ⟨_, rfl⟩
      have RY := hide (box_stored (w := w) Q2.out (by rfl) B2.out (Nat.le_refl _) hY)
      have HYY := hide hY
      clear hY h0
      go_wp2_with (first | (refine wpList_build rfl 30 _ rfl [] rfl _ built_none ?_) | (refine wpList_store_mid rfl 30 _ _ rfl w.heap.size 0 (rcs zeroRc).toArray rfl rfl TH2.out (by kernel_rfl) (by kernel_rfl) ?_))
      rw [show w2.setCells w.heap.size 0 (rcs zeroRc).toArray.toList = Y from HYY.out.symm]
      exact bodyPost_ret (results_cell_tmp Tryz.results11 _ _ w.heap.size (rcs zeroRc) _ _ rfl rfl RY.out.1.range Tryz.underlying30 rfl (by kernel_rfl)) rfl ⟨zeroRc, by rw [EE.out]; rfl, by rw [EE.out], seg_none Y, RY.out.2, fun _ hx _ => by cases hx⟩
theorem rdec_any (n : Int) (sa : Option Addr) (m cap : Nat) (l : List Int) (a : Nat → Addr) (w : World) (hs : Seg w sa m l) (hsrc : Src sa m cap) (hy : Byt l) (he : Errs w a) (hK : Knd w) (hR : Rws w) :
    Calls Tryz.prog 11 #[.int .i64 n, .slice sa m cap] w fun e w' => ∃ rr, e = .returned (.tuple #[.agg (rcs rr).toArray, .int .i64 (decR n l).2]) ∧ er rr = er (decR n l).1 ∧ SegI w' rr.da rr.dn rr.deps ∧ Below w.heap.size w w' :=
  (rdec_new n sa m cap l a w hs hsrc hy he hK hR).mono fun _ _ ⟨rr, h1, h2, h3, h4, _⟩ => ⟨rr, h1, h2, h3, h4⟩
end Go.Proofs.YtlhididcanedhaaGreatDoor
/- What the document's own scan stands on: its cells, as a reader's. -/
namespace Go.Proofs.YtlhididcanedhaaGreatDoor
open Go.RowKit Go.Wire1

theorem rcU_ret (n cap : Nat) (sa : Option Addr) (l : List Int) (w : World) (hs : Seg w sa n l) (hy : Byt l) :
    Calls Tryz.prog 105 #[.slice sa n cap] w fun e w' => (match dec l with | .ok (x, m) => e = .returned (.tuple #[.int .u64 (x : Int), .int .i64 (m : Int), .int .i64 0]) | .error i => e = .returned (.tuple #[.int .u64 0, .int .i64 0, .int .i64 (11 + (i : Int))])) ∧ w' = w := by
  refine (refUint_any n cap sa l w hs hy).mono ?_
  rintro e w' ⟨h, rfl⟩
  refine ⟨?_, rfl⟩
  cases hd : dec l with
  | error i => rw [hd] at h; exact h
  | ok p => rw [hd] at h; exact h
theorem rcI_ret (n cap : Nat) (sa : Option Addr) (l : List Int) (w : World) (hs : Seg w sa n l) (hy : Byt l) :
    Calls Tryz.prog 160 #[.slice sa n cap] w fun e w' => (match dec l with | .ok (x, m) => e = .returned (.tuple #[.int .i64 (unzig x), .int .i64 (m : Int), .int .i64 0]) | .error i => e = .returned (.tuple #[.int .i64 0, .int .i64 0, .int .i64 (11 + (i : Int))])) ∧ w' = w := by
  refine (refInt_any n cap sa l w hs hy).mono ?_
  rintro e w' ⟨h, rfl⟩
  refine ⟨?_, rfl⟩
  cases hd : dec l with
  | error i => rw [hd] at h; exact h
  | ok p => rw [hd] at h; exact h

section
variable {w : World} {b : Nat} {sa : Option Addr} {n cap k m : Nat} {f : Int} {l : List Int} {a : Nat → Addr}
theorem rc_forms (h : Rdr w b sa n cap k f l a) :
    (∃ sb so, sa = some ⟨sb, so, none⟩ ∧ k < n ∧ 0 < (cap : Int) - (k : Int) ∧ ∀ q, Seg (w.drewN q) (some ⟨sb, so + k, none⟩) (n - k) (l.drop k)) ∨ (k = n ∧ (cap : Int) - (k : Int) = 0 ∧ l.drop k = []) ∨ (k = n ∧ 0 < (cap : Int) - (k : Int) ∧ l.drop k = []) := by
  have hk := h.ready.le
  have hc := h.capLe
  by_cases e : k = n
  · have hd : l.drop k = [] := by rw [List.drop_eq_nil_iff, h.ready.seg.1]; omega
    by_cases e2 : cap = k
    · right; left; exact ⟨e, by omega, hd⟩
    · right; right; exact ⟨e, by omega, hd⟩
  · left
    obtain ⟨sb, so, rfl, _⟩ := h.ready.seg.2.2 (by omega)
    exact ⟨sb, so, rfl, by omega, by omega, fun q => (h.ready.seg.drewN q).from (by omega)⟩
theorem rc_move (h : Rdr w b sa n cap k f l a) (q : Nat) (hm : k + m ≤ n) : Touch b w ((w.drewN q).setCell ⟨b, 1, none⟩ (.int .i64 ((k : Int) + (m : Int)))) ∧ Rdr ((w.drewN q).setCell ⟨b, 1, none⟩ (.int .i64 ((k : Int) + (m : Int)))) b sa n cap (k + m) f l a := by
  have hT : Touch b w ((w.drewN q).setCell ⟨b, 1, none⟩ (.int .i64 ((k : Int) + (m : Int)))) := ((Touch.refl b w).drewN q).setB _
  refine ⟨hT, h.moved hT ?_ ?_ ?_ ?_ ?_ hm⟩
  · rw [World.cell?_setCell_other _ _ _ _ (by simp)]; exact h.ready.cur.1
  · have := World.cell?_setCell_same (w.drewN q) ⟨b, 1, none⟩ (.int .i64 ((k : Int) + (m : Int))) h.ready.cur.2.1
    rw [this]; simp
  · rw [World.frozen?_setCell]; exact h.ready.cur.2.2
  · rw [World.cell?_setCell_other _ _ _ _ (by simp)]; exact h.fault
  · rw [World.frozen?_setCell]; exact h.thaw
theorem rc_moved (h : Rdr w b sa n cap k f l a) (q : Nat) (z : Int) (hz : z = (k : Int) + (m : Int)) (hm : k + m ≤ n) : Touch b w ((w.drewN q).setCell ⟨b, 1, none⟩ (.int .i64 z)) ∧ Rdr ((w.drewN q).setCell ⟨b, 1, none⟩ (.int .i64 z)) b sa n cap (k + m) f l a := by
  rw [hz]; exact rc_move h q hm
theorem rc_break (h : Rdr w b sa n cap k f l a) (q : Nat) (z : Int) : Touch b w ((w.drewN q).setCell ⟨b, 2, none⟩ (.int .i64 z)) ∧ Rdr ((w.drewN q).setCell ⟨b, 2, none⟩ (.int .i64 z)) b sa n cap k z l a := by
  have hT : Touch b w ((w.drewN q).setCell ⟨b, 2, none⟩ (.int .i64 z)) := ((Touch.refl b w).drewN q).setB _
  refine ⟨hT, h.moved hT ?_ ?_ ?_ ?_ ?_ h.ready.le⟩
  · rw [World.cell?_setCell_other _ _ _ _ (by simp)]; exact h.ready.cur.1
  · rw [World.cell?_setCell_other _ _ _ _ (by simp)]; exact h.ready.cur.2.1
  · rw [World.frozen?_setCell]; exact h.ready.cur.2.2
  · exact World.cell?_setCell_same (w.drewN q) ⟨b, 2, none⟩ _ h.fault
  · rw [World.frozen?_setCell]; exact h.thaw
end

/-- What the document's scan reads as a number from k on. -/
def rcU (top : Nat) (own : Int) (l : List Int) (k : Nat) (f : Int) : Nat × Nat × Int :=
  if f = 0 then (match dec (l.drop k) with | .ok (x, m) => if top < x then (0, k, own) else (x, k + m, 0) | .error i => (0, k, 11 + (i : Int))) else (0, k, f)
theorem rcU_le (top : Nat) (own : Int) (l : List Int) (k : Nat) (f : Int) : (rcU top own l k f).1 ≤ top := by
  unfold rcU
  split
  · split
    · split <;> simp; omega
    · simp
  · simp

set_option maxHeartbeats 2000000 in
set_option maxRecDepth 100000 in
theorem rcUint_any (top : Nat) (own : Int) (b n cap k : Nat) (f : Int) (sa : Option Addr) (l : List Int) (a : Nat → Addr) (w : World) (ho : own ≠ 0) (ht : top ≤ 1073741824) (h : Rdr w b sa n cap k f l a) :
    Calls Tryz.prog 157 #[.pointer (some ⟨b, 0, none⟩), .int .u64 (top : Int), .int .i64 own] w fun e w' => e = .returned (.int .i64 ((rcU top own l k f).1 : Nat)) ∧ Touch b w w' ∧ Rdr w' b sa n cap (rcU top own l k f).2.1 (rcU top own l k f).2.2 l a := by
  have c0 : w.cell? ⟨b, 0, none⟩ = some (.slice sa n cap) := h.ready.cur.1
  have c1 : w.cell? ⟨b, 1, none⟩ = some (.int .i64 (k : Int)) := h.ready.cur.2.1
  have f1 : w.frozen? ⟨b, 1, none⟩ = false := h.ready.cur.2.2
  have c2 := h.fault
  have f2 := h.thaw
  have hn := h.ready.seg.2.1
  have hcm := h.capMax
  have hcl := h.capLe
  have hkn := h.ready.le
  have hl := hide h.ready.seg.1
  have ho1 : (own == 0) = false := beq_eq_false_iff_ne.2 ho
  have ho2 : (own != 0) = true := by rw [bne_iff_ne]; exact ho
  clear ho
  unfold maxLen at hn hcm
  by_cases hf : f = 0
  · subst hf
    have bk := byt_drop h.ready.byt k
    have HFm := hide (rc_forms h)
    cases hd : dec (l.drop k) with
    | error i =>
      have hne : ((11 + (i : Int)) == 0) = false := beq_eq_false_iff_ne.2 (by omega)
      have hne' : ((11 + (i : Int)) != 0) = true := by rw [bne_iff_ne]; omega
      have HQ : Hid (rcU top own l k 0 = (0, k, 11 + (i : Int))) := by unfold rcU; rw [hd]; rfl
      rcases HFm.out with ⟨sb, so, rfl, g1, g2, g3⟩ | ⟨rfl, g2, g3⟩ | ⟨rfl, g2, g3⟩
      · have HC : Hid (∀ q, Calls Tryz.prog 105 #[.slice (some ⟨sb, so + k, none⟩) (n - k) (cap - k)] (w.drewN q) fun e w' => e = .returned (.tuple #[.int .u64 0, .int .i64 0, .int .i64 (11 + (i : Int))]) ∧ w' = w.drewN q) := fun q => by
          have := rcU_ret (n - k) (cap - k) _ _ (w.drewN q) (g3 q) bk; rw [hd] at this; exact this
        clear g3
        clear hd HFm
        go_enter Tryz.func157, Tryz.ntmps157
        go_wp2_with fail
        go_quiet ((go_at_call 105; exact Calls.quiet_of_same (HC.out _)))
        go_wp2
        go_ret
        rw [HQ.out]
        exact ⟨rfl, rc_break h _ _⟩
      · rw [g3] at hd
        have HC : Hid (∀ (ad : Option Addr) (c q : Nat), Calls Tryz.prog 105 #[.slice ad 0 c] (w.drewN q) fun e w' => e = .returned (.tuple #[.int .u64 0, .int .i64 0, .int .i64 (11 + (i : Int))]) ∧ w' = w.drewN q) := fun ad c q => by
          have := rcU_ret 0 c ad [] (w.drewN q) (seg_empty _ _) (fun z hz => by cases hz); rw [hd] at this; exact this
        clear g3
        clear hd HFm
        go_enter Tryz.func157, Tryz.ntmps157
        go_wp2_with fail
        go_quiet ((go_at_call 105; exact Calls.quiet_of_same (HC.out _ _ _)))
        go_wp2
        go_ret
        rw [HQ.out]
        exact ⟨rfl, rc_break h _ _⟩
      · rw [g3] at hd
        have HC : Hid (∀ (ad : Option Addr) (c q : Nat), Calls Tryz.prog 105 #[.slice ad 0 c] (w.drewN q) fun e w' => e = .returned (.tuple #[.int .u64 0, .int .i64 0, .int .i64 (11 + (i : Int))]) ∧ w' = w.drewN q) := fun ad c q => by
          have := rcU_ret 0 c ad [] (w.drewN q) (seg_empty _ _) (fun z hz => by cases hz); rw [hd] at this; exact this
        clear g3
        clear hd HFm
        go_enter Tryz.func157, Tryz.ntmps157
        go_wp2_with fail
        go_quiet ((go_at_call 105; exact Calls.quiet_of_same (HC.out _ _ _)))
        go_wp2
        go_ret
        rw [HQ.out]
        exact ⟨rfl, rc_break h _ _⟩
    | ok p =>
      obtain ⟨x, m⟩ := p
      have hx := dec_lt bk hd
      have hm : k + m ≤ n := by have := (dec_len bk hd).2.2; rw [List.length_drop, hl.out] at this; omega
      rcases HFm.out with ⟨sb, so, rfl, g1, g2, g3⟩ | ⟨rfl, g2, g3⟩ | ⟨rfl, g2, g3⟩
      · have HC : Hid (∀ q, Calls Tryz.prog 105 #[.slice (some ⟨sb, so + k, none⟩) (n - k) (cap - k)] (w.drewN q) fun e w' => e = .returned (.tuple #[.int .u64 (x : Int), .int .i64 (m : Int), .int .i64 0]) ∧ w' = w.drewN q) := fun q => by
          have := rcU_ret (n - k) (cap - k) _ _ (w.drewN q) (g3 q) bk; rw [hd] at this; exact this
        clear g3
        by_cases hb : top < x
        · have HQ : Hid (rcU top own l k 0 = (0, k, own)) := by unfold rcU; rw [hd]; exact if_pos hb
          clear hd HFm
          go_enter Tryz.func157, Tryz.ntmps157
          go_wp2_with fail
          go_quiet ((go_at_call 105; exact Calls.quiet_of_same (HC.out _)))
          go_wp2
          go_ret
          rw [HQ.out]
          exact ⟨rfl, rc_break h _ _⟩
        · have HQ : Hid (rcU top own l k 0 = (x, k + m, 0)) := by unfold rcU; rw [hd]; exact if_neg hb
          have hxt : x ≤ 1073741824 := by omega
          clear hd HFm
          go_enter Tryz.func157, Tryz.ntmps157
          go_wp2_with fail
          go_quiet ((go_at_call 105; exact Calls.quiet_of_same (HC.out _)))
          go_wp2
          go_ret
          rw [HQ.out]
          exact ⟨rfl, rc_move h _ hm⟩
      · rw [g3] at hd; cases hd
      · rw [g3] at hd; cases hd
  · have HQ : Hid (rcU top own l k f = (0, k, f)) := by unfold rcU; exact if_neg hf
    have hb : (f != 0) = true := by rw [bne_iff_ne]; exact hf
    clear hf
    go_enter Tryz.func157, Tryz.ntmps157
    go_wp2
    go_ret
    rw [HQ.out]
    exact ⟨rfl, Touch.refl b w, h⟩
end Go.Proofs.YtlhididcanedhaaGreatDoor
