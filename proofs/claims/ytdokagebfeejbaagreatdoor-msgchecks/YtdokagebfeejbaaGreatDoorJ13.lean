/- Texts of the proof, joined. -/
import Derived.Test.YtdokagebfeejbaaGreatDoorJ12
import Derived.Test.YtdokagebfeejbaaGreatDoorJ03
import Derived.WalkLawsBesides
import Derived.Deep.QuietTactic
import Derived.BigQuiet
import Derived.Test.YtdokagebfeejbaaGreatDoorJ01
import Derived.WalkKit
import Derived.Test.YtdokagebfeejbaaGreatDoorJ05
import Derived.Lib.AppendStr
import Derived.Lib.SliceRun
import Derived.Test.YtdokagebfeejbaaGreatDoorJ04
import Derived.Test.YtdokagebfeejbaaGreatDoorRows
import Derived.Test.YtdokagebfeejbaaGreatDoorJ09
import Derived.Deep.RegionHeld3
import Derived.Test.YtdokagebfeejbaaGreatDoorJ11
/- One list of bytes of our own laid onto another; the contract of package command's sharedStart. -/
namespace Go.Proofs.YtdokagebfeejbaaGreatDoor
open Go.RowKit Go.Wire1

theorem own_cells {w : World} {C : Nat} {u : Value} {E : List Int} (h : w.ownsRow C 5 1 u E.length (E.map (Value.int .u8))) (hE : 0 < E.length) : ∃ g cap, u = .slice (some ⟨g, 0, none⟩) E.length cap ∧ ∀ j x, (E.map (Value.int .u8))[j]? = some x → w.cell? ((⟨g, 0, none⟩ : Addr).add j) = some x := by
  obtain ⟨g, cap, rfl, hm⟩ := mine_of h hE
  refine ⟨g, cap, rfl, fun j x hx => ?_⟩
  have hj : j < E.length := by
    apply Classical.byContradiction
    intro hn
    rw [List.getElem?_eq_none (by rw [List.length_map]; omega)] at hx
    cases hx
  rw [add_at, Nat.zero_add, h.cellAt j (by omega)]
  exact hx
theorem own_more {w : World} {B B' : Nat} {e : TypeId} {s : Nat} {v : Value} {n : Nat} {xs : List Value} (h : w.ownsRow B e s v n xs) (hb : B' ≤ B) : w.ownsRow B' e s v n xs := by
  refine ⟨h.1, ?_⟩
  rcases h.2 with h2 | ⟨g, cap, cur, e1, hB, r⟩
  · exact .inl h2
  · exact .inr ⟨g, cap, cur, e1, by omega, r⟩

theorem wpList_join {w : World} {ops : Array Oper} {rest : List Oper} {o : Oper} {a : Act} {Q : Exit → Act → World → Prop} (hgd : o.guard = none) (s x : Operand)
    (ho : o.op = .call { callee := .builtin .append, args := #[s, x], argTypes := #[42, 42] })
    (B C : Nat) (v u : Value) (l E M : List Int) (hM : Hid (l ++ E = M)) (hs : a.eval s = v) (hx : a.eval x = u) (hown : w.ownsRow B 5 1 v l.length (l.map (Value.int .u8))) (hsrc : w.ownsRow C 5 1 u E.length (E.map (Value.int .u8)))
    (hE : 0 < E.length) (hlen : l.length + E.length ≤ 1000000) (hB : B ≤ w.heap.size)
    (h : ∀ v' w', w'.ownsRow B 5 1 v' M.length (M.map (Value.int .u8)) → w.grownBy w' v.ownBlock → wpList Tryz.prog ops Q rest (a.put o.dst v') w') : wpList Tryz.prog ops Q (o :: rest) a w := by
  obtain ⟨i0, hi, hz0, hz1, hz2⟩ := info_parts Tryz.info5
  obtain ⟨g, cap, rfl, hc⟩ := own_cells hsrc hE
  refine wpList_append_own w hgd s x 42 ho B 5 i0 (.int .u8 0) 1 1 Tryz.underlying42 hi hz0 hz1 hz2 rfl (by decide) v l.length (l.map (Value.int .u8)) hs hown ⟨g, 0, none⟩ E.length cap (E.map (Value.int .u8)) hx (by rw [List.length_map, Nat.mul_one]) hc ?_ ?_ ?_ hB ?_
  · intro y hy
    obtain ⟨z, _, rfl⟩ := List.mem_map.1 hy
    rfl
  · unfold maxLen; omega
  · omega
  · intro v' w' ho' hg _
    refine h v' w' ?_ hg
    rw [← hM.out, List.length_append, List.map_append]
    exact ho'

theorem tb_at (s : ByteArray) (i : Nat) (hi : i < s.size) (V : World) : (Instr.index 9 (.string s) (.int .i64 (i : Int))).run Tryz.prog V = .ok (.int .u8 ((s.data.toList.getD i 0).toNat : Int)) V := by
  rw [run_index_string V 9 s .i64 (i : Int) Tryz.underlying9, dif_pos ⟨by omega, by omega⟩]
  simp only [Int.toNat_natCast]
  rw [List.getD, List.getElem?_eq_getElem (by rw [← Lib.size_eq]; exact hi)]
  rfl

set_option maxHeartbeats 1000000 in
set_option maxRecDepth 100000 in
theorem sharedStart_any (k k2 : ByteArray) (w : World) (h1 : k.size ≤ 140737488351232) (h2 : k2.size ≤ 140737488351232) :
    Calls Tryz.prog 126 #[.string k, .string k2] w fun e w' => e = .returned (.int .i64 (shared k k2 : Nat)) ∧ ∃ q, w' = w.drewN q := by
  go_enter Tryz.func126, Tryz.ntmps126
  go_wp2_with fail
  go_loopw [5] (fun x wr => ∃ i q : Nat, x = .int .i64 (i : Int) ∧ i ≤ k.size ∧ i ≤ k2.size ∧ Hid (shared k k2 = i + shL (k.data.toList.drop i) (k2.data.toList.drop i)) ∧ wr = w.drewN q) (fun x _ => k.size - (RowKit.intOf x).toNat)
  case atStart => exact ⟨0, 0, rfl, by omega, by omega, by simp [Hid, shared], rfl⟩
  case round =>
    obtain ⟨i, q, rfl, hi, hi2, HF, rfl⟩ := hrel
    have lk : Hid (k.data.toList.length = k.size) := (Lib.size_eq k).symm
    have lk2 : Hid (k2.data.toList.length = k2.size) := (Lib.size_eq k2).symm
    by_cases g1 : i < k.size
    · by_cases g2 : i < k2.size
      · have a1 := tb_at k i g1
        have a2 := tb_at k2 i g2
        have HD := hide (shL_drop i k.data.toList k2.data.toList (by rw [lk.out]; exact g1) (by rw [lk2.out]; exact g2))
        have d1 : decide ((i : Int) < (k.size : Int)) = true := decide_eq_true (by omega)
        have d2 : decide ((i : Int) < (k2.size : Int)) = true := decide_eq_true (by omega)
        generalize k.data.toList.getD i 0 = x at *
        generalize k2.data.toList.getD i 0 = y at *
        by_cases hxy : x = y
        · subst hxy
          have HN : Hid (shared k k2 = (i + 1) + shL (k.data.toList.drop (i + 1)) (k2.data.toList.drop (i + 1))) := by
            have e1 := HF.out
            rw [HD.out, if_pos rfl] at e1
            rw [e1]; exact hide (by omega)
          have hb : (((x.toNat : Nat) : Int) == ((x.toNat : Nat) : Int)) = true := by simp
          go_wp2
          go_quiet (fail)
          go_wp2
          go_roundw
          case rel => exact ⟨i + 1, _, by go_num, by omega, by omega, HN, rfl⟩
          case measure => simp [RowKit.intOf]; omega
        · have HN : Hid (shared k k2 = i) := by
            have e1 := HF.out
            rw [HD.out, if_neg hxy] at e1
            exact e1
          have hb : (((x.toNat : Nat) : Int) == ((y.toNat : Nat) : Int)) = false := by
            rw [beq_eq_false_iff_ne]
            intro e
            exact hxy (UInt8.toNat_inj.1 (by omega))
          go_wp2
          go_quiet (fail)
          go_wp2
          go_ret
          exact ⟨by rw [HN.out]; rfl, _, by rw [World.drewN_drewN]⟩
      · have HN : Hid (shared k k2 = i) := by
          have e1 := HF.out
          rw [shL_end i _ _ (.inr (by rw [lk2.out]; omega))] at e1
          exact e1
        have d1 : decide ((i : Int) < (k.size : Int)) = true := decide_eq_true (by omega)
        have d2 : decide ((i : Int) < (k2.size : Int)) = false := decide_eq_false (by omega)
        go_wp2
        go_quiet (fail)
        go_wp2
        go_ret
        exact ⟨by rw [HN.out]; rfl, _, by rw [World.drewN_drewN]⟩
    · have HN : Hid (shared k k2 = i) := by
        have e1 := HF.out
        rw [shL_end i _ _ (.inl (by rw [lk.out]; omega))] at e1
        exact e1
      have d1 : decide ((i : Int) < (k.size : Int)) = false := decide_eq_false (by omega)
      go_wp2
      go_quiet (fail)
      go_wp2
      go_ret
      exact ⟨by rw [HN.out]; rfl, _, by rw [World.drewN_drewN]⟩
end Go.Proofs.YtdokagebfeejbaaGreatDoor
/- The contract of the scan's key2. -/
namespace Go.Proofs.YtdokagebfeejbaaGreatDoor
open Go.RowKit Go.Wire1

def k2A (key : ByteArray) (l : List Int) (s : St) : Nat × St := sNum key.size 45 l s
def k2T (key : ByteArray) (l : List Int) (s : St) : ByteArray × St := sTxt (1 - ((k2A key l s).1 : Int)) (64 - ((k2A key l s).1 : Int)) 45 l (k2A key l s).2
def k2K (key : ByteArray) (l : List Int) (s : St) : ByteArray := key.extract 0 (k2A key l s).1 ++ (k2T key l s).1
def k2F1 (key : ByteArray) (l : List Int) (s : St) : Int := if (k2A key l s).1 < shared key (k2K key l s) then refF 13 (k2T key l s).2.ft else (k2T key l s).2.ft
def k2F (kind : Int) (key : ByteArray) (l : List Int) (s : St) : Int := if isPairB kind key (k2K key l s) then k2F1 key l s else refF 45 (k2F1 key l s)
def sKey2 (kind : Int) (key : ByteArray) (l : List Int) (s : St) : ByteArray × St := (k2K key l s, ⟨(k2T key l s).2.k, (k2T key l s).2.f, k2F kind key l s⟩)

end Go.Proofs.YtdokagebfeejbaaGreatDoor
/- A command in a block of its own. -/
namespace Go.Proofs.YtdokagebfeejbaaGreatDoor
open Go.RowKit Go.Wire1

/-- A command in a block of its own. -/
def CBox (w : World) (g : Nat) (kind client req : Int) (key key2 val old : ByteArray) (n : Int) : Prop :=
  w.cell? ⟨g, 0, none⟩ = some (.int .i64 kind) ∧ w.cell? ⟨g, 1, none⟩ = some (.int .i64 client) ∧ w.cell? ⟨g, 2, none⟩ = some (.int .i64 req) ∧ w.cell? ⟨g, 3, none⟩ = some (.string key) ∧ w.cell? ⟨g, 4, none⟩ = some (.string key2) ∧ w.cell? ⟨g, 5, none⟩ = some (.string val) ∧ w.cell? ⟨g, 6, none⟩ = some (.string old) ∧ w.cell? ⟨g, 7, none⟩ = some (.int .i64 n)
theorem CBox.below {w w' : World} {g B : Nat} {kind client req : Int} {key key2 val old : ByteArray} {n : Int} (h : CBox w g kind client req key key2 val old n) (hb : Below B w w') (hB : w.heap.size ≤ B) : CBox w' g kind client req key key2 val old n := by
  have hg : g < w.heap.size := cell_lt h.1
  have key : ∀ o, w'.cell? ⟨g, o, none⟩ = w.cell? ⟨g, o, none⟩ := fun o => hb.cell (p := ⟨g, o, none⟩) (by show g < B; omega)
  unfold CBox
  rw [key, key, key, key, key, key, key, key]
  exact h
theorem CBox.drewN {w : World} {g : Nat} {kind client req : Int} {key key2 val old : ByteArray} {n : Int} (h : CBox w g kind client req key key2 val old n) (q : Nat) : CBox (w.drewN q) g kind client req key key2 val old n := h
theorem cbox_new (w : World) (t : TypeId) (kind client req : Int) (key key2 val old : ByteArray) (n : Int) : CBox (w.alloc (.cells #[.int .i64 kind, .int .i64 client, .int .i64 req, .string key, .string key2, .string val, .string old, .int .i64 n] t)) w.heap.size kind client req key key2 val old n := by
  refine ⟨?_, ?_, ?_, ?_, ?_, ?_, ?_, ?_⟩ <;> simp [go_sem]
end Go.Proofs.YtdokagebfeejbaaGreatDoor
/- A command's box beside a scan. -/
namespace Go.Proofs.YtdokagebfeejbaaGreatDoor
open Go.RowKit Go.Wire1

theorem Turn.ofBelow {g b : Nat} {x y : World} (h : Below x.heap.size x y) : Turn g b x y := ⟨h.os, h.tape, h.output, h.size, fun i hi _ _ => h.block i hi⟩
theorem Turn.setNew {g b c o : Nat} {x y : World} (h : Turn g b x y) (v : Value) (hc : x.heap.size ≤ c) : Turn g b x (y.setCell ⟨c, o, none⟩ v) :=
  ⟨h.os, h.tape, h.output, by simpa [World.setCell] using h.size, fun i hi h1 h2 => (Below.heap_setCell _ _ _ _ (by show i ≠ c; omega)).trans (h.block i hi h1 h2)⟩

/-- A command in a block that may be written. -/
structure Bx (w : World) (q : Nat) (c : Cm) : Prop where
  box : CBox w q c.kind c.client c.req c.key c.key2 c.val c.old c.n
  thaw : ∀ o, w.frozen? ⟨q, o, none⟩ = false
def zeroC : Cm := ⟨0, 0, 0, ⟨#[]⟩, ⟨#[]⟩, ⟨#[]⟩, ⟨#[]⟩, 0⟩
theorem Bx.lt {w : World} {q : Nat} {c : Cm} (h : Bx w q c) : q < w.heap.size := cell_lt h.box.1
theorem Bx.of_block {w w' : World} {q : Nat} {c : Cm} (h : Bx w q c) (e : w'.heap[q]? = w.heap[q]?) : Bx w' q c := by
  have key : ∀ o, w'.cell? ⟨q, o, none⟩ = w.cell? ⟨q, o, none⟩ := fun o => World.cell?_of_block (a := ⟨q, o, none⟩) e
  refine ⟨?_, fun o => (World.frozen?_of_block (a := ⟨q, o, none⟩) e).trans (h.thaw o)⟩
  have hb := h.box
  unfold CBox at hb ⊢
  rw [key, key, key, key, key, key, key, key]
  exact hb
theorem Bx.turn {w w' : World} {q g b : Nat} {c : Cm} (h : Bx w q c) (T : Turn g b w w') (hg : q ≠ g) (hb : q ≠ b) : Bx w' q c := h.of_block (T.block q h.lt hg hb)
theorem Bx.beside {w w' : World} {q r : Nat} {c : Cm} (h : Bx w q c) (T : Touch r w w') (hr : q ≠ r) : Bx w' q c := h.of_block (T.block q h.lt hr)

section
variable {w : World} {q : Nat} {c : Cm}
theorem Bx.setThaw (h : Bx w q c) (p : Addr) (v : Value) : ∀ o, (w.setCell p v).frozen? ⟨q, o, none⟩ = false := fun o => by rw [World.frozen?_setCell]; exact h.thaw o
theorem Bx.client (h : Bx w q c) (x : Int) : Bx (w.setCell ⟨q, 1, none⟩ (.int .i64 x)) q { c with client := x } := by
  obtain ⟨h0, h1, h2, h3, h4, h5, h6, h7⟩ := h.box
  refine ⟨⟨?_, World.cell?_setCell_same w ⟨q, 1, none⟩ _ h1, ?_, ?_, ?_, ?_, ?_, ?_⟩, h.setThaw _ _⟩ <;> (rw [World.cell?_setCell_other _ _ _ _ (by simp)]; assumption)
theorem Bx.req (h : Bx w q c) (x : Int) : Bx (w.setCell ⟨q, 2, none⟩ (.int .i64 x)) q { c with req := x } := by
  obtain ⟨h0, h1, h2, h3, h4, h5, h6, h7⟩ := h.box
  refine ⟨⟨?_, ?_, World.cell?_setCell_same w ⟨q, 2, none⟩ _ h2, ?_, ?_, ?_, ?_, ?_⟩, h.setThaw _ _⟩ <;> (rw [World.cell?_setCell_other _ _ _ _ (by simp)]; assumption)
theorem Bx.key (h : Bx w q c) (x : ByteArray) : Bx (w.setCell ⟨q, 3, none⟩ (.string x)) q { c with key := x } := by
  obtain ⟨h0, h1, h2, h3, h4, h5, h6, h7⟩ := h.box
  refine ⟨⟨?_, ?_, ?_, World.cell?_setCell_same w ⟨q, 3, none⟩ _ h3, ?_, ?_, ?_, ?_⟩, h.setThaw _ _⟩ <;> (rw [World.cell?_setCell_other _ _ _ _ (by simp)]; assumption)
theorem Bx.key2 (h : Bx w q c) (x : ByteArray) : Bx (w.setCell ⟨q, 4, none⟩ (.string x)) q { c with key2 := x } := by
  obtain ⟨h0, h1, h2, h3, h4, h5, h6, h7⟩ := h.box
  refine ⟨⟨?_, ?_, ?_, ?_, World.cell?_setCell_same w ⟨q, 4, none⟩ _ h4, ?_, ?_, ?_⟩, h.setThaw _ _⟩ <;> (rw [World.cell?_setCell_other _ _ _ _ (by simp)]; assumption)
theorem Bx.val (h : Bx w q c) (x : ByteArray) : Bx (w.setCell ⟨q, 5, none⟩ (.string x)) q { c with val := x } := by
  obtain ⟨h0, h1, h2, h3, h4, h5, h6, h7⟩ := h.box
  refine ⟨⟨?_, ?_, ?_, ?_, ?_, World.cell?_setCell_same w ⟨q, 5, none⟩ _ h5, ?_, ?_⟩, h.setThaw _ _⟩ <;> (rw [World.cell?_setCell_other _ _ _ _ (by simp)]; assumption)
theorem Bx.old (h : Bx w q c) (x : ByteArray) : Bx (w.setCell ⟨q, 6, none⟩ (.string x)) q { c with old := x } := by
  obtain ⟨h0, h1, h2, h3, h4, h5, h6, h7⟩ := h.box
  refine ⟨⟨?_, ?_, ?_, ?_, ?_, ?_, World.cell?_setCell_same w ⟨q, 6, none⟩ _ h6, ?_⟩, h.setThaw _ _⟩ <;> (rw [World.cell?_setCell_other _ _ _ _ (by simp)]; assumption)
theorem Bx.n (h : Bx w q c) (x : Int) : Bx (w.setCell ⟨q, 7, none⟩ (.int .i64 x)) q { c with n := x } := by
  obtain ⟨h0, h1, h2, h3, h4, h5, h6, h7⟩ := h.box
  refine ⟨⟨?_, ?_, ?_, ?_, ?_, ?_, ?_, World.cell?_setCell_same w ⟨q, 7, none⟩ _ h7⟩, h.setThaw _ _⟩ <;> (rw [World.cell?_setCell_other _ _ _ _ (by simp)]; assumption)
end

/-- A scan beside blocks that are newer than it. -/
theorem Scs.fresh {w x y : World} {g b q : Nat} {sa : Option Addr} {n cap : Nat} {l : List Int} {a : Nat → Addr} {s s' : St} (h0 : Scs w g b sa n cap l a s) (hq : w.heap.size ≤ q) (h : Scs x g b sa n cap l a s') (T : Touch q x y) : Scs y g b sa n cap l a s' := by
  have hg := h0.lt
  have hb := h0.rdr.lt
  have hsix := h0.six
  have e : y.heap[g]? = x.heap[g]? := T.block g h.lt (by omega)
  exact ⟨(World.cell?_of_block (a := ⟨g, 0, none⟩) e).trans h.ptr, (World.cell?_of_block (a := ⟨g, 1, none⟩) e).trans h.fault, (World.frozen?_of_block (a := ⟨g, 1, none⟩) e).trans h.thaw,
    h.rdr.beside T (by omega) (fun z hz hn => by have := h0.rdr.ready.seg.lt hn hz; omega) (by omega) (fun i hi => by have := h0.rdr.ready.errs.lt i hi; omega), h.ne, h.sep, h.apart, h.six⟩

/-- In the midst of reading a command: w the world at the call, W the world now, the result at its first new block, the command's box at q. -/
structure Com (w W : World) (q g b : Nat) (sa : Option Addr) (n cap : Nat) (l : List Int) (a : Nat → Addr) (c : Cm) (s : St) : Prop where
  turn : Turn g b w W
  scs : Scs W g b sa n cap l a s
  box : Bx W q c
  res : Bx W w.heap.size zeroC
  new : w.heap.size < q
section
variable {w W W' : World} {q g b : Nat} {sa : Option Addr} {n cap : Nat} {l : List Int} {a : Nat → Addr} {c c' : Cm} {s s' s0 : St}
theorem Com.call (h : Com w W q g b sa n cap l a c s) (h0 : Scs w g b sa n cap l a s0) (T : Turn g b W W') (S : Scs W' g b sa n cap l a s') : Com w W' q g b sa n cap l a c s' := by
  have hg := h0.lt
  have hb := h0.rdr.lt
  have hn := h.new
  exact ⟨h.turn.trans T, S, h.box.turn T (by omega) (by omega), h.res.turn T (by omega) (by omega), h.new⟩
theorem Com.put (h : Com w W q g b sa n cap l a c s) (h0 : Scs w g b sa n cap l a s0) (o : Nat) (u : Value) (hb : Bx (W.setCell ⟨q, o, none⟩ u) q c') : Com w (W.setCell ⟨q, o, none⟩ u) q g b sa n cap l a c' s := by
  have hn := h.new
  have T : Touch q W (W.setCell ⟨q, o, none⟩ u) := (Touch.refl q W).setB _
  exact ⟨h.turn.setNew u (by omega), h0.fresh (by omega) h.scs T, hb, h.res.beside T (by omega), h.new⟩
end
end Go.Proofs.YtdokagebfeejbaaGreatDoor
/- The scan's command, a leaf for each kind. -/
namespace Go.Proofs.YtdokagebfeejbaaGreatDoor
open Go.RowKit Go.Wire1

end Go.Proofs.YtdokagebfeejbaaGreatDoor
/- The contract of the scan's command. -/
namespace Go.Proofs.YtdokagebfeejbaaGreatDoor
open Go.RowKit Go.Wire1

def sTail (v x : Int) (cl rq : Nat) (ky : ByteArray) (l : List Int) (s : St) : Cm × St :=
  if x = 6 ∨ x = 7 ∨ x = 8 then (⟨x, cl, rq, ky, (sKey2 x ky l s).1, ⟨#[]⟩, ⟨#[]⟩, 0⟩, (sKey2 x ky l s).2)
  else if x = 5 then (⟨x, cl, rq, ky, ⟨#[]⟩, (sTxt 0 (mostV v : Nat) 46 l (sTxt 0 (mostV v : Nat) 47 l s).2).1, (sTxt 0 (mostV v : Nat) 47 l s).1, 0⟩, (sTxt 0 (mostV v : Nat) 46 l (sTxt 0 (mostV v : Nat) 47 l s).2).2)
  else if x = 2 then (⟨x, cl, rq, ky, ⟨#[]⟩, (sTxt 0 (mostV v : Nat) 46 l s).1, ⟨#[]⟩, 0⟩, (sTxt 0 (mostV v : Nat) 46 l s).2)
  else if x = 4 then (⟨x, cl, rq, ky, ⟨#[]⟩, ⟨#[]⟩, ⟨#[]⟩, (sInt l s).1⟩, (sInt l s).2)
  else (⟨x, cl, rq, ky, ⟨#[]⟩, ⟨#[]⟩, ⟨#[]⟩, 0⟩, s)
def sAll (v x : Int) (l : List Int) (s : St) : Cm × St :=
  sTail v x (sNum 65535 42 l s).1 (sNum 1073741824 43 l (sNum 65535 42 l s).2).1 (sTxt 1 64 44 l (sNum 1073741824 43 l (sNum 65535 42 l s).2).2).1 l (sTxt 1 64 44 l (sNum 1073741824 43 l (sNum 65535 42 l s).2).2).2
/-- What a scan reads as a command. -/
def sCmd (v : Int) (l : List Int) (s : St) : Cm × St :=
  if (sKind v l s).2.ft = 0 ∧ (sKind v l s).1 ≠ 0 then sAll v (sKind v l s).1 l (sKind v l s).2
  else (⟨(sKind v l s).1, 0, 0, ⟨#[]⟩, ⟨#[]⟩, ⟨#[]⟩, ⟨#[]⟩, 0⟩, (sKind v l s).2)

theorem isKd_range {v k : Int} (h : isKd v k = true) : 0 ≤ k ∧ k < 9 := by
  unfold isKd at h
  simp only [Bool.and_eq_true, decide_eq_true_eq] at h
  exact ⟨h.1, h.2.1⟩

end Go.Proofs.YtdokagebfeejbaaGreatDoor
/- The contracts of bytes.Clone and of NewReader. -/
namespace Go.Proofs.YtdokagebfeejbaaGreatDoor
open Go.RowKit Go.Wire1 Go.Lib

end Go.Proofs.YtdokagebfeejbaaGreatDoor
/- The contract of Decode. -/
namespace Go.Proofs.YtdokagebfeejbaaGreatDoor
open Go.RowKit Go.Wire1

/-- Decode's answer. -/
def decC (v : Int) (l : List Int) : Cm × Nat × Int :=
  if isVer v then (if (sCmd v (l.take 131281) ⟨0, 0, 0⟩).2.ft = 0 then ((sCmd v (l.take 131281) ⟨0, 0, 0⟩).1, (sCmd v (l.take 131281) ⟨0, 0, 0⟩).2.k, 0) else (zeroC, 0, (sCmd v (l.take 131281) ⟨0, 0, 0⟩).2.ft)) else (zeroC, 0, 2)

end Go.Proofs.YtdokagebfeejbaaGreatDoor
/- What Decode takes is what Encode writes: the mathematics. -/
namespace Go.Proofs.YtdokagebfeejbaaGreatDoor
open Go.RowKit Go.Wire1

end Go.Proofs.YtdokagebfeejbaaGreatDoor
/- What Decode takes is what Encode writes: the mathematics, second part. -/
namespace Go.Proofs.YtdokagebfeejbaaGreatDoor
open Go.RowKit Go.Wire1

/-- The fields behind Key: which a kind has, and that each is allowed. -/
def TailOk (v : Int) (c : Cm) : Prop :=
  (if 6 ≤ c.kind then 1 ≤ c.key2.size ∧ c.key2.size ≤ 64 ∧ isPairB c.kind c.key c.key2 = true else c.key2 = ⟨#[]⟩) ∧
  (if c.kind = 2 ∨ c.kind = 5 then c.val.size ≤ mostV v else c.val = ⟨#[]⟩) ∧
  (if c.kind = 5 then c.old.size ≤ mostV v else c.old = ⟨#[]⟩) ∧ (if c.kind = 4 then True else c.n = 0)
end Go.Proofs.YtdokagebfeejbaaGreatDoor
/- What Encode writes is read back, and each beginning of it ends too early: the mathematics. -/
namespace Go.Proofs.YtdokagebfeejbaaGreatDoor
open Go.RowKit Go.Wire1

/-- A scan that has come to the bytes' end too early. -/
def Bad (s : St) : Prop := s.f = 11 ∧ s.ft = 11
theorem empty_of {s : ByteArray} (h : s.toList.isEmpty = true) : s = ⟨#[]⟩ := by
  rw [Lib.toList_data, List.isEmpty_iff] at h
  apply ByteArray.ext
  apply Array.toList_inj.1
  exact h
theorem zero_of {v k : Int} {c : Cm} {f : Nat} (h : faultF v c f = 0) (hk : c.kind = k) (hh : hasF k f = false) : zeroF c f = true := by
  unfold faultF at h
  rw [hk, hh] at h
  cases hz : zeroF c f with
  | true => rfl
  | false => rw [hz] at h; simp at h
theorem allow_of {v k : Int} {c : Cm} {f : Nat} (h : faultF v c f = 0) (hf : f < 6) (hk : c.kind = k) (hh : hasF k f = true) : allowF v c f = true := has_allow h hf (by rw [hk]; exact hh)
/-- Which fields a command that Check takes has. -/
theorem tailOk_of {v : Int} {c : Cm} (h : chk v c = 0) (h0 : c.kind ≠ 0) : TailOk v c := by
  obtain ⟨hv, hk, hf⟩ := chk_zero h
  have hr := isKd_range hk
  have g3 := hf 3 (by omega)
  have g4 := hf 4 (by omega)
  have g5 := hf 5 (by omega)
  have g6 := hf 6 (by omega)
  clear hf h hk
  have h8 : c.kind = 1 ∨ c.kind = 2 ∨ c.kind = 3 ∨ c.kind = 4 ∨ c.kind = 5 ∨ c.kind = 6 ∨ c.kind = 7 ∨ c.kind = 8 := by omega
  unfold TailOk
  rcases h8 with h | h | h | h | h | h | h | h <;> refine ⟨?_, ?_, ?_, ?_⟩ <;> split <;> rename_i q
  all_goals first
    | (exfalso; omega)
    | trivial
    | exact empty_of (zero_of g3 h (by decide))
    | exact empty_of (zero_of g4 h (by decide))
    | exact empty_of (zero_of g5 h (by decide))
    | (have z := zero_of g6 h (by decide); simpa [zeroF] using z)
    | (have z := allow_of g4 (by decide) h (by decide); simpa [allowF] using z)
    | (have z := allow_of g5 (by decide) h (by decide); simpa [allowF] using z)
    | (have z := allow_of g3 (by decide) h (by decide); simp only [allowF, isKeyB, Bool.and_eq_true, decide_eq_true_eq] at z; exact ⟨z.1.1, z.1.2, z.2⟩)
end Go.Proofs.YtdokagebfeejbaaGreatDoor
/- What Encode writes is read back, and each beginning of it ends too early: the mathematics, second part. -/
namespace Go.Proofs.YtdokagebfeejbaaGreatDoor
open Go.RowKit Go.Wire1

theorem ext_size (k2 : ByteArray) (i : Nat) : (k2.extract i k2.size).size = k2.size - i := by
  rw [ByteArray.size_extract]; omega
theorem mostV_le (v : Int) : mostV v ≤ 65536 := by unfold mostV; split <;> omega
theorem ptx_le {s : ByteArray} (h : s.size ≤ 65536) : (ptx s).length ≤ 10 + s.size := by
  unfold ptx
  rw [List.length_append, tx_len]
  have := enc_le s.size (by omega)
  omega
theorem encC_le {v : Int} {c : Cm} (h : chk v c = 0) : (encC c).length ≤ 131281 := by
  have hc := chk_zero h
  have hs := sound_of h
  have hr := isKd_range hc.2.1
  by_cases h0 : c.kind = 0
  · have : (encC c).length = 1 := by unfold encC; rw [if_pos h0]; rfl
    omega
  · have ht := tailOk_of h h0
    have hcl := hs.client h0
    have hrq := hs.req h0
    have hky := hs.key h0
    have hm := mostV_le v
    have a1 := enc_le c.client.toNat (by omega)
    have a2 := enc_le c.req.toNat (by omega)
    have a3 := ptx_le (s := c.key) (by omega)
    have eL : (encC c).length = 1 + (enc c.client.toNat).length + (enc c.req.toNat).length + (ptx c.key).length + (restC c).length := by unfold encC; rw [if_neg h0]; simp; omega
    have a4 : (restC c).length ≤ 131092 := by
      obtain ⟨t1, t2, t3, t4⟩ := ht
      unfold restC
      split
      · rename_i q
        rw [if_pos q] at t1
        have s1 := shared_le c.key c.key2
        have s2 := ext_size c.key2 (shared c.key c.key2)
        have b1 := enc_le (shared c.key c.key2) (by omega)
        have b2 := ptx_le (s := c.key2.extract (shared c.key c.key2) c.key2.size) (by omega)
        rw [List.length_append]
        omega
      · split
        · rename_i q
          rw [if_pos (Or.inr q)] at t2
          rw [if_pos q] at t3
          have b1 := ptx_le (s := c.old) (by omega)
          have b2 := ptx_le (s := c.val) (by omega)
          rw [List.length_append]
          omega
        · split
          · rename_i q
            rw [if_pos (Or.inl q)] at t2
            have b2 := ptx_le (s := c.val) (by omega)
            omega
          · split
            · have : ∀ x, (enc x).length ≤ 10 := fun x => by
                have : ∀ f y, (encF f y).length ≤ f := fun f => by
                  induction f with
                  | zero => intro y; simp [encF]
                  | succ g ih => intro y; simp only [encF]; split <;> simp; exact ih _
                exact this 10 x
              have := this (zig c.n)
              omega
            · simp
    omega
end Go.Proofs.YtdokagebfeejbaaGreatDoor
/- The contract of entryFrom: a difference, and the entry that it makes. -/
namespace Go.Proofs.YtdokagebfeejbaaGreatDoor
open Go.RowKit Go.Wire1

def enY : Except Nat (Int × Nat) → Int
  | .ok (y, _) => y
  | .error _ => 0
def enM : Except Nat (Int × Nat) → Nat
  | .ok (_, m) => m
  | .error _ => 0
def enE : Except Nat (Int × Nat) → Nat
  | .ok _ => 0
  | .error e => e

end Go.Proofs.YtdokagebfeejbaaGreatDoor
/- The contract of unpackTight. -/
namespace Go.Proofs.YtdokagebfeejbaaGreatDoor
open Go.RowKit Go.Wire1

end Go.Proofs.YtdokagebfeejbaaGreatDoor
/- The contract of isVersion. -/
namespace Go.Proofs.YtdokagebfeejbaaGreatDoor
open Go.RowKit

def okV (v : Int) : Bool := decide (v = 1 ∨ v = 2)
set_option maxRecDepth 100000 in
theorem visVersion_any (v : Int) (w : World) :
    Calls Tryz.prog 104 #[.int .i64 v] w fun e w' => e = .returned (.bool (okV v)) ∧ w = w' := by
  by_cases h1 : v = 1
  · subst h1
    go_enter Tryz.func104, Tryz.ntmps104
    go_wp2
    go_ret
    exact ⟨rfl, rfl⟩
  · by_cases h2 : v = 2
    · subst h2
      go_enter Tryz.func104, Tryz.ntmps104
      go_wp2
      go_ret
      exact ⟨rfl, rfl⟩
    · have HQ : Hid (okV v = false) := decide_eq_false (by omega)
      have d1 : (v == 1) = false := beq_eq_false_iff_ne.2 h1
      have d2 : (v == 2) = false := beq_eq_false_iff_ne.2 h2
      go_enter Tryz.func104, Tryz.ntmps104
      go_wp2
      go_ret
      exact ⟨by rw [HQ.out]; rfl, rfl⟩

end Go.Proofs.YtdokagebfeejbaaGreatDoor
/- The contracts of unpack, list and Unpack. -/
namespace Go.Proofs.YtdokagebfeejbaaGreatDoor
open Go.RowKit Go.Wire1

end Go.Proofs.YtdokagebfeejbaaGreatDoor
/- What a message's scan reads of a command and of a vector: as functions of the bytes, and the contracts of cmd and deps. -/
namespace Go.Proofs.YtdokagebfeejbaaGreatDoor
open Go.RowKit Go.Wire1

/-- What stands in a scan behind its items: the version, its functions, the number of replicas. -/
def Vf (v n : Int) : Nat → Option Value := fun j =>
  if j = 2 then some (.int .i64 v) else if j = 9 then some (.int .i64 n)
  else if v = 1 then (if j = 6 then some (.func (.func 55) #[] #[]) else if j = 7 then some (.func (.func 56) #[] #[]) else if j = 8 then some (.func (.func 57) #[] #[]) else if j = 3 then some (.func (.func 52) #[] #[]) else if j = 4 then some (.func (.func 53) #[] #[]) else if j = 5 then some (.func (.func 54) #[] #[]) else none)
  else (if j = 6 then some (.func (.func 61) #[] #[]) else if j = 7 then some (.func (.func 62) #[] #[]) else if j = 8 then some (.func (.func 63) #[] #[]) else if j = 3 then some (.func (.func 58) #[] #[]) else if j = 4 then some (.func (.func 59) #[] #[]) else if j = 5 then some (.func (.func 60) #[] #[]) else none)
def iCmd (v : Int) (l : List Int) (f : Int) : Cm × List Int × Int := if f = 0 then ((decC v l).1, l.drop (decC v l).2.1, (decC v l).2.2) else (zeroC, l, f)

theorem Bx.kind {w : World} {q : Nat} {c : Cm} (h : Bx w q c) (x : Int) : Bx (w.setCell ⟨q, 0, none⟩ (.int .i64 x)) q { c with kind := x } := by
  obtain ⟨h0, h1, h2, h3, h4, h5, h6, h7⟩ := h.box
  refine ⟨⟨World.cell?_setCell_same w ⟨q, 0, none⟩ _ h0, ?_, ?_, ?_, ?_, ?_, ?_, ?_⟩, h.setThaw _ _⟩ <;> (rw [World.cell?_setCell_other _ _ _ _ (by simp)]; assumption)
section
variable (w0 : World) (g : Nat) (v n : Int) (l : List Int)
end
end Go.Proofs.YtdokagebfeejbaaGreatDoor
/- The contracts of the scan's deps and attr. -/
namespace Go.Proofs.YtdokagebfeejbaaGreatDoor
open Go.RowKit Go.Wire1

/-- A list of ints that lies in a block from B on. -/
def DV (w : World) (B : Nat) (u : Value) (l : List Int) : Prop := ∃ a k c, u = .slice a k c ∧ SegI w a k l ∧ ∀ x, a = some x → 0 < k → B ≤ x.block
theorem DV.nil (w : World) (B : Nat) : DV w B (.slice none 0 0) [] := ⟨none, 0, 0, rfl, ⟨rfl, by unfold maxLen; omega, fun h => by omega, fun j => by simp⟩, fun x h => by cases h⟩
theorem DV.of_blocks {w w' : World} {B : Nat} {u : Value} {l : List Int} (h : DV w B u l) (hb : ∀ k, B ≤ k → k < w.heap.size → w'.heap[k]? = w.heap[k]?) : DV w' B u l := by
  obtain ⟨a, k, c, rfl, ⟨h1, h2, h3, h4⟩, h5⟩ := h
  refine ⟨a, k, c, rfl, ⟨h1, h2, fun hk => ?_, h4⟩, h5⟩
  obtain ⟨b, off, rfl, hc⟩ := h3 hk
  exact ⟨b, off, rfl, fun j hj => by rw [World.cell?_of_block (w := w) (hb b (h5 _ rfl hk) (cell_lt (hc j hj)))]; exact hc j hj⟩
theorem DV.touch {w w' : World} {B g : Nat} {u : Value} {l : List Int} (h : DV w B u l) (T : Touch g w w') (hg : g < B) : DV w' B u l := h.of_blocks fun k h1 h2 => T.block k h2 (by omega)
theorem DV.below {w w' : World} {B C : Nat} {u : Value} {l : List Int} (h : DV w B u l) (hb : Below C w w') (hC : w.heap.size ≤ C) : DV w' B u l := h.of_blocks fun k _ h2 => hb.block k (by omega)
theorem DV.set {w : World} {B q o : Nat} {u : Value} {l : List Int} (h : DV w B u l) (x : Value) (hq : q < B) : DV (w.setCell ⟨q, o, none⟩ x) B u l := h.of_blocks fun k h1 _ => Below.heap_setCell _ _ _ _ (by show k ≠ q; omega)
theorem DV.less {w : World} {B B' : Nat} {u : Value} {l : List Int} (h : DV w B u l) (hB : B' ≤ B) : DV w B' u l := by
  obtain ⟨a, k, c, e, h1, h2⟩ := h
  exact ⟨a, k, c, e, h1, fun x hx hk => Nat.le_trans hB (h2 x hx hk)⟩
theorem DV.shape {w : World} {B : Nat} {u : Value} {l : List Int} (h : DV w B u l) : ∃ a k c, u = .slice a k c := by
  obtain ⟨a, k, c, e, _⟩ := h; exact ⟨a, k, c, e⟩

def iDeps (v n : Int) (l : List Int) (f : Int) : List Int × List Int × Int := if f = 0 then (upL (upk v n l), l.drop (upN (upk v n l)), (upE (upk v n l) : Int)) else ([], l, f)
section
variable (w0 : World) (g : Nat) (v n : Int) (l : List Int)
end
end Go.Proofs.YtdokagebfeejbaaGreatDoor
