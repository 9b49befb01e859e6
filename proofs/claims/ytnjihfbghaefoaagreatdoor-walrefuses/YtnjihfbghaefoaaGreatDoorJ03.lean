/- Texts of the proof, joined. -/
import Derived.Test.YtnjihfbghaefoaaGreatDoorJ02
import Derived.Test.YtnjihfbghaefoaaGreatDoorProg
import Derived.Conc.MuLib
import Derived.KernelRfl
import Derived.Test.YtnjihfbghaefoaaGreatDoorRows
import Derived.Conc.MuLone
import Derived.WalkKit
import Derived.Deep.RegionHeld3
import Derived.Deep.QuietTactic
import Derived.BigQuiet
import Derived.Test.YtnjihfbghaefoaaGreatDoorJ01
/- A disk in memory: its lock, its row of bytes of our own, its mark; what a step of a method leaves. -/
namespace Go.Proofs.YtnjihfbghaefoaaGreatDoor
open Go.RowKit Go.Wire1

/-- A disk in memory; s: its lock's state. -/
structure Dsk (s : Int) (w : World) (b : Nat) (pv : Value) (l : List Int) (m E0 : Nat) : Prop where
  box : Blk w b [.int .i32 s, .int .u32 0, pv, .int .i64 (m : Int)]
  own : w.ownsRow E0 5 1 pv l.length (l.map (Value.int .u8))
  far : pv.ownBlock ≠ some b
  le : m ≤ l.length
  top : l.length ≤ 4194304
  low : E0 ≤ b
  byt : Byt l
/-- What a step leaves. -/
structure Dst (s : Int) (w w' : World) (b : Nat) (pv pv' : Value) (l' : List Int) (m' E0 : Nat) : Prop where
  dsk : Dsk s w' b pv' l' m' E0
  tch : Tch b pv.ownBlock w w'
  lat : Lat pv.ownBlock pv'.ownBlock w

section
variable {s : Int} {w : World} {b : Nat} {pv : Value} {l : List Int} {m E0 : Nat}
theorem Dst.trans {s1 s2 : Int} {w1 w2 : World} {pv1 pv2 : Value} {l1 l2 : List Int} {m1 m2 : Nat} (h : Dst s1 w w1 b pv pv1 l1 m1 E0) (k : Dst s2 w1 w2 b pv1 pv2 l2 m2 E0) : Dst s2 w w2 b pv pv2 l2 m2 E0 :=
  ⟨k.dsk, h.tch.trans k.tch h.lat, h.lat.trans k.lat h.tch.size⟩
theorem Dsk.drewN (h : Dsk s w b pv l m E0) (q : Nat) : Dsk s (w.drewN q) b pv l m E0 := ⟨h.box.drewN q, h.own, h.far, h.le, h.top, h.low, h.byt⟩
theorem Dst.drewN {w1 : World} {pv1 : Value} (h : Dst s w w1 b pv pv1 l m E0) (q : Nat) : Dst s w (w1.drewN q) b pv pv1 l m E0 := ⟨h.dsk.drewN q, h.tch.drewN q, h.lat⟩
theorem Dsk.idle (h : Dsk s w b pv l m E0) (q : Nat) : Dst s w (w.drewN q) b pv pv l m E0 := ⟨h.drewN q, (Tch.refl _ _ _).drewN q, Lat.refl _ _⟩
theorem Dsk.ownLow (h : Dsk s w b pv l m E0) : ∀ k, pv.ownBlock = some k → E0 ≤ k := fun k hk => (h.own.lt k hk).1
theorem Dst.below {s0 : Int} {w' : World} {pv' : Value} {l' : List Int} {m' : Nat} (h : Dst s w w' b pv pv' l' m' E0) (k : Dsk s0 w b pv l m E0) : Below E0 w w' :=
  h.tch.below k.low k.ownLow (Nat.le_trans k.low (Nat.le_of_lt k.box.lt))
theorem own_box {v : Value} {n : Nat} {xs : List Value} {o : Nat} {u : Value} (h : w.ownsRow E0 5 1 v n xs) (far : v.ownBlock ≠ some b) : (w.setCell ⟨b, o, none⟩ u).ownsRow E0 5 1 v n xs :=
  own_other h fun k hk => Below.heap_setCell _ _ _ _ (fun e => far (by rw [hk, e]))
theorem Dsk.lock (h : Dsk s w b pv l m E0) (t : Int) : Dst t w (w.setCell ⟨b, 0, none⟩ (.int .i32 t)) b pv pv l m E0 :=
  ⟨⟨h.box.setAt 0 _, own_box h.own h.far, h.far, h.le, h.top, h.low, h.byt⟩, (Tch.refl _ _ _).setB _, Lat.refl _ _⟩
theorem Dsk.mark (h : Dsk s w b pv l m E0) {t : Nat} (ht : t ≤ l.length) : Dst s w (w.setCell ⟨b, 3, none⟩ (.int .i64 (t : Int))) b pv pv l t E0 :=
  ⟨⟨h.box.setAt 3 _, own_box h.own h.far, h.far, ht, h.top, h.low, h.byt⟩, (Tch.refl _ _ _).setB _, Lat.refl _ _⟩
theorem own_take {v : Option Addr} {n cap : Nat} {L : List Int} (h : w.ownsRow E0 5 1 (.slice v n cap) n (L.map (Value.int .u8))) (k : Nat) (hk : k ≤ n) : w.ownsRow E0 5 1 (.slice v k cap) k ((L.take k).map (Value.int .u8)) := by
  have hl : L.length = n := by have := h.1; simpa using this
  refine ⟨by simp; omega, ?_⟩
  rcases h.2 with ⟨e, h0⟩ | ⟨g, cap', cur, e, hB, hh, h3, h4, h5, h6⟩
  · obtain rfl : k = 0 := by omega
    cases e
    exact .inl ⟨rfl, rfl⟩
  · cases e
    refine .inr ⟨g, cap, cur, rfl, hB, hh, by omega, h4, h5, ?_⟩
    rw [Nat.mul_one] at h6 ⊢
    rw [List.map_take, ← h6, List.take_take, Nat.min_eq_left hk]
theorem Dsk.len {sa : Option Addr} {n cap : Nat} (h : Dsk s w b (.slice sa n cap) l m E0) : l.length = n := by
  rcases h.own.2 with ⟨e, h0⟩ | ⟨g, c, cur, e, _⟩
  · cases e; exact h0
  · cases e; rfl
theorem Dsk.cut {sa : Option Addr} {n cap : Nat} (h : Dsk s w b (.slice sa n cap) l m E0) {k : Nat} (hk : k ≤ l.length) (hm : m ≤ k) : Dst s w (w.setCell ⟨b, 2, none⟩ (.slice sa k cap)) b (.slice sa n cap) (.slice sa k cap) (l.take k) m E0 := by
  have hn := h.len
  have ho := h.own
  rw [hn] at ho
  have hf : (Value.slice sa k cap).ownBlock ≠ some b := by have := h.far; cases sa <;> exact this
  refine ⟨⟨h.box.setAt 2 _, own_box (by have := own_take ho k (by omega); rw [List.length_take, Nat.min_eq_left hk]; exact this) hf, hf, by rw [List.length_take]; omega, by rw [List.length_take]; have := h.top; omega, h.low, byt_take h.byt k⟩, (Tch.refl _ _ _).setB _, ?_⟩
  cases sa <;> exact Lat.refl _ _
theorem Dsk.grow {w2 : World} {pv' : Value} {l' : List Int} (h : Dsk s w b pv l m E0) (ho : w2.ownsRow E0 5 1 pv' l'.length (l'.map (Value.int .u8))) (hg : w.grownBy w2 pv.ownBlock) (hw : pv'.ownBlock = pv.ownBlock ∨ pv'.ownBlock = some w.heap.size) (hm : m ≤ l'.length) (ht : l'.length ≤ 4194304) (hy : Byt l') :
    Dst s w (w2.setCell ⟨b, 2, none⟩ pv') b pv pv' l' m E0 := by
  have hf : pv'.ownBlock ≠ some b := by
    rcases hw with e | e <;> rw [e]
    · exact h.far
    · intro e2; have := h.box.lt; injection e2 with e2; omega
  have hb : Blk w2 b _ := h.box.of_block (hg.block b h.box.lt (fun e => h.far e.symm))
  refine ⟨⟨hb.setAt 2 _, own_box ho hf, hf, hm, ht, h.low, hy⟩, Tch.setB ⟨hg.os, hg.tape, hg.output, hg.size, fun i hi _ hr => hg.block i hi hr⟩ _, ?_⟩
  rcases hw with e | e
  · exact .inl e
  · exact .inr fun k hk => by rw [e] at hk; injection hk with hk; omega
/-- A row and a block that lie elsewhere stay. -/
theorem Dsk.on {w' : World} (h : Dsk s w b pv l m E0) (hb : w'.heap[b]? = w.heap[b]?) (hr : ∀ k, pv.ownBlock = some k → w'.heap[k]? = w.heap[k]?) : Dsk s w' b pv l m E0 :=
  ⟨h.box.of_block hb, own_other h.own hr, h.far, h.le, h.top, h.low, h.byt⟩
theorem Dsk.later {w' : World} (h : Dsk s w b pv l m E0) (hb : Below w.heap.size w w') : Dsk s w' b pv l m E0 :=
  h.on (hb.block b h.box.lt) (fun k hk => hb.block k (h.own.lt k hk).2)
theorem heap_back {w2 : World} {v0 u : Value} (h0 : w.cell? ⟨b, 0, none⟩ = some v0) (h2 : w2.heap[b]? = (w.setCell ⟨b, 0, none⟩ u).heap[b]?) : (w2.setCell ⟨b, 0, none⟩ v0).heap[b]? = w.heap[b]? := by
  simp only [World.setCell, Array.getElem?_modify] at h2 ⊢
  rw [if_pos trivial] at h2 ⊢
  rw [h2]
  unfold World.cell? at h0
  cases hw : w.heap[b]? with
  | none => rfl
  | some o =>
    rw [hw] at h0
    cases o with
    | cells c e f =>
      simp only [Option.isSome_none, Bool.false_eq_true, if_false] at h0
      simp only [Option.map_some, Option.isSome_none, Bool.false_eq_true, if_false, Option.some.injEq, Obj.cells.injEq, and_true]
      apply Array.ext_getElem?
      intro i
      rw [Array.getElem?_setIfInBounds, Array.size_setIfInBounds]
      by_cases hi : 0 = i
      · subst hi
        rw [if_pos rfl, h0, if_pos (by exact (Array.getElem?_eq_some_iff.1 h0).1)]
      · rw [if_neg hi, Array.getElem?_setIfInBounds, if_neg hi]
    | _ => simp at h0
/-- The lock taken and given back: nothing has turned. -/
theorem Dsk.relock {w2 : World} (h : Dsk 0 w b pv l m E0) (hb : Below w.heap.size (w.setCell ⟨b, 0, none⟩ (.int .i32 1)) w2) : Below w.heap.size w (w2.setCell ⟨b, 0, none⟩ (.int .i32 0)) := by
  refine ⟨hb.os, hb.tape, hb.output, by have := hb.size; simpa [World.setCell] using this, fun k hk => ?_⟩
  by_cases e : k = b
  · subst e
    exact heap_back (h.box.cell 0 _ rfl) (hb.block k hk)
  · rw [Below.heap_setCell _ _ _ _ (by exact e), hb.block k hk, Below.heap_setCell _ _ _ _ (by exact e)]
theorem Dsk.still (h : Dsk 0 w b pv l m E0) : Below w.heap.size w ((w.setCell ⟨b, 0, none⟩ (.int .i32 1)).setCell ⟨b, 0, none⟩ (.int .i32 0)) := h.relock (Below.refl _ _)
theorem Dsk.stay {w' : World} (h : Dsk 0 w b pv l m E0) (hb : Below w.heap.size w w') : Dst 0 w w' b pv pv l m E0 := ⟨h.later hb, Tch.ofBelow hb, Lat.refl _ _⟩
end
end Go.Proofs.YtnjihfbghaefoaaGreatDoor
/- The numbers under which this program holds the library's lock, and that it holds it. -/
namespace Go.Proofs
abbrev Tryz.muLink : Go.Conc.Locks.MuLink := { lock := 39, unlock := 40, ilock := 69, iunlock := 70, lockSlow := 109, unlockSlow := 112, disable := 105, enable := 107, acquire := 108, relMerge := 110, cas32 := 106, add32 := 111, tMutex := 86, tIMutex := 84, tPMutex := 125, tPIMutex := 158, tPI32 := 160, tUP := 130, tNoCopy := 81, tU32 := 82 }
theorem Tryz.muLib : Go.Conc.Locks.MuLib Tryz.prog Tryz.muLink :=
  ⟨Tryz.func39, Tryz.func40, Tryz.func69, Tryz.func70, Tryz.func105, Tryz.func107, Tryz.func108, Tryz.func110, Tryz.func106, Tryz.func111, Tryz.underlying84, Tryz.runUnderlying84, Tryz.sizeOf84, Tryz.isAgg84, Tryz.zeroValue84, Tryz.underlying86, Tryz.runUnderlying86, Tryz.sizeOf86, Tryz.isAgg86, Tryz.zeroValue86, Tryz.underlying125, Tryz.runUnderlying125, Tryz.sizeOf125, Tryz.isAgg125, Tryz.zeroValue125, Tryz.underlying158, Tryz.runUnderlying158, Tryz.sizeOf158, Tryz.isAgg158, Tryz.zeroValue158, Tryz.underlying160, Tryz.runUnderlying160, Tryz.sizeOf160, Tryz.isAgg160, Tryz.zeroValue160, Tryz.underlying130, Tryz.runUnderlying130, Tryz.sizeOf130, Tryz.isAgg130, Tryz.zeroValue130, Tryz.underlying81, Tryz.runUnderlying81, Tryz.sizeOf81, Tryz.isAgg81, Tryz.zeroValue81, Tryz.underlying21, Tryz.runUnderlying21, Tryz.sizeOf21, Tryz.isAgg21, Tryz.zeroValue21, (by kernel_rfl)⟩
end Go.Proofs
/- The contracts of the disk's methods Sync, Cut, Crash, Rot. -/
namespace Go.Proofs.YtnjihfbghaefoaaGreatDoor
open Go.RowKit Go.Wire1 Go.MuLone

section
variable (w : World) (b : Nat) (pv : Value) (l : List Int) (m E0 : Nat)

set_option maxHeartbeats 1000000 in
set_option maxRecDepth 100000 in
theorem sync_any (h : Dsk 0 w b pv l m E0) :
    Calls Tryz.prog 38 #[.pointer (some ⟨b, 0, none⟩)] w fun r w' => r = .returned (.tuple #[]) ∧ Dst 0 w w' b pv pv l l.length E0 := by
  obtain ⟨sa, cap, rfl⟩ := own_shape h.own
  have c0 := h.box.cell 0 _ rfl
  have c2 := h.box.cell 2 _ rfl
  have c3 := h.box.cell 3 _ rfl
  have f0 := h.box.thaw 0
  have f3 := h.box.thaw 3
  have h1 := h.lock 1
  have h2 := h1.trans (h1.dsk.mark (Nat.le_refl _))
  have R := hide (h2.trans (h2.dsk.lock 0))
  have L1 : Hid (((w.setCell ⟨b, 0, none⟩ (.int .i32 1)).setCell ⟨b, 3, none⟩ (.int .i64 (l.length : Int))).cell? ⟨b, 0, none⟩ = some (.int .i32 1)) := h2.dsk.box.cell 0 _ rfl
  clear h1 h2 h
  generalize hn : l.length = n at *
  clear hn
  go_enter_defers Tryz.func38, Tryz.ntmps38
  go_wp2_with (go_at_call 39; refine (lock_free Tryz.muLib ⟨b, 0, none⟩ _ c0 f0).mono ?_; rintro e w' ⟨rfl, rfl⟩)
  refine leaves_cons (f := 40) (args := #[.pointer (some ⟨b, 0, none⟩)]) (by simp) (by simp [go_sem]) ?_
  refine (unlock_deferred Tryz.muLib ⟨b, 0, none⟩ .returning _ L1.out (by simp [f0])).mono ?_
  rintro e u' w'' ⟨rfl, rfl, rfl⟩
  exact ⟨_, results_none rfl _ _ _, rfl, R.out⟩

end
end Go.Proofs.YtnjihfbghaefoaaGreatDoor
/- The contracts of PutUint, fold and PutInt: what they hand back is new memory that holds just the form of the number. -/
namespace Go.Proofs.YtnjihfbghaefoaaGreatDoor
open Go.RowKit Go.Wire1

theorem Tryz.info5 : (Tryz.prog.info? 5).map (fun i => (i.zero, i.size, i.bytes)) = some (some (.int .u8 0), 1, 1) := by kernel_rfl

set_option maxHeartbeats 400000 in
set_option maxRecDepth 100000 in
theorem putUint_any (x : Nat) (w : World) (hx : x < 18446744073709551616) :
    Calls Tryz.prog 65 #[.int .u64 (x : Int)] w fun e w' => ∃ v, e = .returned v ∧ w'.ownsRow w.heap.size 5 1 v (enc x).length ((enc x).map (Value.int .u8)) ∧ Below w.heap.size w w' := by
  obtain ⟨i0, hi, hz0, hz1, hz2⟩ := info_parts Tryz.info5
  go_enter Tryz.func65, Tryz.ntmps65
  go_wp2
  go_loopw [0, 3] (fun s v wr => ∃ (y : Nat) (pre : List Int) (f : Nat), s = .int .u64 (y : Int) ∧ y < 18446744073709551616 ∧ Hid (y < 128 ^ (f + 1)) ∧ pre.length + f = 9 ∧ Hid (pre ++ encF (f + 1) y = enc x) ∧ wr.ownsRow w.heap.size 5 1 v pre.length (pre.map (Value.int .u8)) ∧ Below w.heap.size w wr)
    (fun s _ _ => (intOf s).toNat)
  case atStart => exact ⟨x, [], 9, rfl, hx, pow10 x hx, rfl, rfl, World.ownsRow_nil _ _ _ _, Below.refl _ _⟩
  case round =>
    obtain ⟨y, pre, f, rfl, hy, HP, hf, HE, hown, hbel⟩ := hrel
    have hsz := hbel.size
    have hpl : pre.length ≤ 9 := by omega
    have HF : Hid (pre.length + f = 9) := hf
    clear hf
    by_cases hc : 128 ≤ y
    · go_wp2_with (first
        | (at_builtin; refine wpList_append_own _ rfl _ _ 46 rfl w.heap.size 5 i0 (.int .u8 0) 1 1 Tryz.underlying46 hi hz0 hz1 hz2 rfl (by decide) _ _ _ rfl (hown.alloc _) ⟨wr.heap.size, 0, none⟩ 1 1 [.int .u8 (bits .or .u8 ((y : Int) % 256) 128)] rfl rfl ?c1 ?c2 ?c3 ?c4 ?c5 ?_))
      case c1 =>
        intro j u hj
        match j, hj with
        | 0, hj => simp at hj; subst hj; simp [Addr.add]
      case c2 => intro u hu; simp at hu; subst hu; rfl
      case c3 => unfold maxLen; omega
      case c4 => omega
      case c5 => simp; omega
      intro v' w1 hown' hgrow _
      rw [bits_or128] at hown'
      have R := push hsz hown hbel hown' hgrow
      clear hown' hgrow hown
      obtain ⟨g, rfl, hg⟩ := pow128 f y HP.out hc
      have HG : Hid (y / 128 < 128 ^ (g + 1)) := hg
      clear hg
      go_wp2
      go_roundw
      case rel => exact ⟨y / 128, pre ++ [((y % 128 + 128 : Nat) : Int)], g, by go_num, by omega, HG, by have := HF.out; simp; omega, by have := HE.out; rw [encF_big _ _ hc] at this; simpa [Hid] using this, R.1, R.2⟩
      case measure => simp [intOf]; omega
    · go_wp2_with (first
        | (at_builtin; refine wpList_append_own _ rfl _ _ 46 rfl w.heap.size 5 i0 (.int .u8 0) 1 1 Tryz.underlying46 hi hz0 hz1 hz2 rfl (by decide) _ _ _ rfl (hown.alloc _) ⟨wr.heap.size, 0, none⟩ 1 1 [.int .u8 (y : Int)] rfl rfl ?d1 ?d2 ?d3 ?d4 ?d5 ?_))
      case d1 =>
        intro j u hj
        match j, hj with
        | 0, hj => simp at hj; subst hj; simp [Addr.add]
      case d2 => intro u hu; simp at hu; subst hu; rfl
      case d3 => unfold maxLen; omega
      case d4 => omega
      case d5 => simp; omega
      intro v' w1 hown' hgrow _
      have R := push hsz hown hbel hown' hgrow
      clear hown' hgrow hown
      have HQ : Hid (pre ++ [(y : Int)] = enc x) := by have := HE.out; rw [encF_small _ _ (by omega)] at this; exact this
      go_wp2
      go_ret
      rw [HQ.out] at R
      exact ⟨_, rfl, R.1, R.2⟩

set_option maxHeartbeats 400000 in
set_option maxRecDepth 100000 in
theorem fold_any (x : Int) (w : World) (h1 : -9223372036854775808 ≤ x) (h2 : x ≤ 9223372036854775807) :
    Calls Tryz.prog 174 #[.int .i64 x] w fun e w' => e = .returned (.int .u64 (zig x : Nat)) ∧ w' = w := by
  by_cases hc : 0 ≤ x
  · go_enter Tryz.func174, Tryz.ntmps174
    go_wp2
    go_ret
    exact ⟨ret_int (zig_pos x hc h2), rfl⟩
  · go_enter Tryz.func174, Tryz.ntmps174
    go_wp2
    go_ret
    exact ⟨ret_int (zig_neg x (by omega) h1), rfl⟩

set_option maxHeartbeats 400000 in
set_option maxRecDepth 100000 in
theorem putInt_any (x : Int) (w : World) (h1 : -9223372036854775808 ≤ x) (h2 : x ≤ 9223372036854775807) :
    Calls Tryz.prog 156 #[.int .i64 x] w fun e w' => ∃ v, e = .returned v ∧ w'.ownsRow w.heap.size 5 1 v (enc (zig x)).length ((enc (zig x)).map (Value.int .u8)) ∧ Below w.heap.size w w' := by
  have hz := zig_lt x h1 h2
  go_enter Tryz.func156, Tryz.ntmps156
  go_wp2_with fail
  refine (fold_any x _ h1 h2).mono ?_
  rintro e w' ⟨rfl, rfl⟩
  go_wp2_with fail
  refine (putUint_any (zig x) _ hz).mono ?_
  rintro e w' ⟨v, rfl, hown, hbel⟩
  go_wp2
  go_ret
  exact ⟨_, rfl, hown, hbel⟩
end Go.Proofs.YtnjihfbghaefoaaGreatDoor
/- The contract of the statements' helper Bytes: a new list. -/
namespace Go.Proofs.YtnjihfbghaefoaaGreatDoor
open Go.RowKit Go.Wire1

end Go.Proofs.YtnjihfbghaefoaaGreatDoor
