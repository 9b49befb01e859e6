/- Texts of the proof, joined. -/
import Derived.Test.YtlhididcanedhaaGreatDoorJ12
import Derived.Test.YtlhididcanedhaaGreatDoorJ05
/- A command's box beside a scan. -/
namespace Go.Proofs.YtlhididcanedhaaGreatDoor
open Go.RowKit Go.Wire1

theorem Turn.ofBelow {g b : Nat} {x y : World} (h : Below x.heap.size x y) : Turn g b x y := ⟨h.os, h.tape, h.output, h.size, fun i hi _ _ => h.block i hi⟩
theorem Turn.setNew {g b c o : Nat} {x y : World} (h : Turn g b x y) (v : Value) (hc : x.heap.size ≤ c) : Turn g b x (y.setCell ⟨c, o, none⟩ v) :=
  ⟨h.os, h.tape, h.output, by simpa [World.setCell] using h.size, fun i hi h1 h2 => (Below.heap_setCell _ _ _ _ (by show i ≠ c; omega)).trans (h.block i hi h1 h2)⟩

/-- A command in a block that may be written. -/
structure Bx (w : World) (q : Nat) (c : Cm) : Prop where
  box : CBox w q c.kind c.client c.req c.key c.key2 c.val c.old c.n
  thaw : ∀ o, w.frozen? ⟨q, o, none⟩ = false
def zeroC : Cm := ⟨0, 0, 0, ⟨#[]⟩, ⟨#[]⟩, ⟨#[]⟩, ⟨#[]⟩, 0⟩
theorem Bx.lt {w : World} {q : Nat} {c : Cm} (h : Bx w q c) : q < w.heap.size := cell_lt h.box.1
theorem Bx.of_block {w w' : World} {q : Nat} {c : Cm} (h : Bx w q c) (e : w'.heap[q]? = w.heap[q]?) : Bx w' q c := by
  have key : ∀ o, w'.cell? ⟨q, o, none⟩ = w.cell? ⟨q, o, none⟩ := fun o => World.cell?_of_block (a := ⟨q, o, none⟩) e
  refine ⟨?_, fun o => (World.frozen?_of_block (a := ⟨q, o, none⟩) e).trans (h.thaw o)⟩
  have hb := h.box
  unfold CBox at hb ⊢
  rw [key, key, key, key, key, key, key, key]
  exact hb
theorem Bx.turn {w w' : World} {q g b : Nat} {c : Cm} (h : Bx w q c) (T : Turn g b w w') (hg : q ≠ g) (hb : q ≠ b) : Bx w' q c := h.of_block (T.block q h.lt hg hb)
theorem bx_new (w : World) (t : TypeId) (kind client req : Int) (key key2 val old : ByteArray) (n : Int) : Bx (w.alloc (.cells #[.int .i64 kind, .int .i64 client, .int .i64 req, .string key, .string key2, .string val, .string old, .int .i64 n] t)) w.heap.size ⟨kind, client, req, key, key2, val, old, n⟩ :=
  ⟨cbox_new w t kind client req key key2 val old n, fun _ => World.frozen?_alloc_at _ _ _ _ rfl⟩
theorem Bx.beside {w w' : World} {q r : Nat} {c : Cm} (h : Bx w q c) (T : Touch r w w') (hr : q ≠ r) : Bx w' q c := h.of_block (T.block q h.lt hr)

section
variable {w : World} {q : Nat} {c : Cm}
theorem Bx.setThaw (h : Bx w q c) (p : Addr) (v : Value) : ∀ o, (w.setCell p v).frozen? ⟨q, o, none⟩ = false := fun o => by rw [World.frozen?_setCell]; exact h.thaw o
theorem Bx.client (h : Bx w q c) (x : Int) : Bx (w.setCell ⟨q, 1, none⟩ (.int .i64 x)) q { c with client := x } := by
  obtain ⟨h0, h1, h2, h3, h4, h5, h6, h7⟩ := h.box
  refine ⟨⟨?_, World.cell?_setCell_same w ⟨q, 1, none⟩ _ h1, ?_, ?_, ?_, ?_, ?_, ?_⟩, h.setThaw _ _⟩ <;> (rw [World.cell?_setCell_other _ _ _ _ (by simp)]; assumption)
theorem Bx.req (h : Bx w q c) (x : Int) : Bx (w.setCell ⟨q, 2, none⟩ (.int .i64 x)) q { c with req := x } := by
  obtain ⟨h0, h1, h2, h3, h4, h5, h6, h7⟩ := h.box
  refine ⟨⟨?_, ?_, World.cell?_setCell_same w ⟨q, 2, none⟩ _ h2, ?_, ?_, ?_, ?_, ?_⟩, h.setThaw _ _⟩ <;> (rw [World.cell?_setCell_other _ _ _ _ (by simp)]; assumption)
theorem Bx.key (h : Bx w q c) (x : ByteArray) : Bx (w.setCell ⟨q, 3, none⟩ (.string x)) q { c with key := x } := by
  obtain ⟨h0, h1, h2, h3, h4, h5, h6, h7⟩ := h.box
  refine ⟨⟨?_, ?_, ?_, World.cell?_setCell_same w ⟨q, 3, none⟩ _ h3, ?_, ?_, ?_, ?_⟩, h.setThaw _ _⟩ <;> (rw [World.cell?_setCell_other _ _ _ _ (by simp)]; assumption)
theorem Bx.key2 (h : Bx w q c) (x : ByteArray) : Bx (w.setCell ⟨q, 4, none⟩ (.string x)) q { c with key2 := x } := by
  obtain ⟨h0, h1, h2, h3, h4, h5, h6, h7⟩ := h.box
  refine ⟨⟨?_, ?_, ?_, ?_, World.cell?_setCell_same w ⟨q, 4, none⟩ _ h4, ?_, ?_, ?_⟩, h.setThaw _ _⟩ <;> (rw [World.cell?_setCell_other _ _ _ _ (by simp)]; assumption)
theorem Bx.val (h : Bx w q c) (x : ByteArray) : Bx (w.setCell ⟨q, 5, none⟩ (.string x)) q { c with val := x } := by
  obtain ⟨h0, h1, h2, h3, h4, h5, h6, h7⟩ := h.box
  refine ⟨⟨?_, ?_, ?_, ?_, ?_, World.cell?_setCell_same w ⟨q, 5, none⟩ _ h5, ?_, ?_⟩, h.setThaw _ _⟩ <;> (rw [World.cell?_setCell_other _ _ _ _ (by simp)]; assumption)
theorem Bx.old (h : Bx w q c) (x : ByteArray) : Bx (w.setCell ⟨q, 6, none⟩ (.string x)) q { c with old := x } := by
  obtain ⟨h0, h1, h2, h3, h4, h5, h6, h7⟩ := h.box
  refine ⟨⟨?_, ?_, ?_, ?_, ?_, ?_, World.cell?_setCell_same w ⟨q, 6, none⟩ _ h6, ?_⟩, h.setThaw _ _⟩ <;> (rw [World.cell?_setCell_other _ _ _ _ (by simp)]; assumption)
theorem Bx.n (h : Bx w q c) (x : Int) : Bx (w.setCell ⟨q, 7, none⟩ (.int .i64 x)) q { c with n := x } := by
  obtain ⟨h0, h1, h2, h3, h4, h5, h6, h7⟩ := h.box
  refine ⟨⟨?_, ?_, ?_, ?_, ?_, ?_, ?_, World.cell?_setCell_same w ⟨q, 7, none⟩ _ h7⟩, h.setThaw _ _⟩ <;> (rw [World.cell?_setCell_other _ _ _ _ (by simp)]; assumption)
end

/-- A scan beside blocks that are newer than it. -/
theorem Scs.fresh {w x y : World} {g b q : Nat} {sa : Option Addr} {n cap : Nat} {l : List Int} {a : Nat → Addr} {s s' : St} (h0 : Scs w g b sa n cap l a s) (hq : w.heap.size ≤ q) (h : Scs x g b sa n cap l a s') (T : Touch q x y) : Scs y g b sa n cap l a s' := by
  have hg := h0.lt
  have hb := h0.rdr.lt
  have hsix := h0.six
  have e : y.heap[g]? = x.heap[g]? := T.block g h.lt (by omega)
  exact ⟨(World.cell?_of_block (a := ⟨g, 0, none⟩) e).trans h.ptr, (World.cell?_of_block (a := ⟨g, 1, none⟩) e).trans h.fault, (World.frozen?_of_block (a := ⟨g, 1, none⟩) e).trans h.thaw,
    h.rdr.beside T (by omega) (fun z hz hn => by have := h0.rdr.ready.seg.lt hn hz; omega) (by omega) (fun i hi => by have := h0.rdr.ready.errs.lt i hi; omega), h.ne, h.sep, h.apart, h.six⟩

/-- In the midst of reading a command: w the world at the call, W the world now, the result at its first new block, the command's box at q. -/
structure Com (w W : World) (q g b : Nat) (sa : Option Addr) (n cap : Nat) (l : List Int) (a : Nat → Addr) (c : Cm) (s : St) : Prop where
  turn : Turn g b w W
  scs : Scs W g b sa n cap l a s
  box : Bx W q c
  res : Bx W w.heap.size zeroC
  new : w.heap.size < q
section
variable {w W W' : World} {q g b : Nat} {sa : Option Addr} {n cap : Nat} {l : List Int} {a : Nat → Addr} {c c' : Cm} {s s' s0 : St}
theorem Com.call (h : Com w W q g b sa n cap l a c s) (h0 : Scs w g b sa n cap l a s0) (T : Turn g b W W') (S : Scs W' g b sa n cap l a s') : Com w W' q g b sa n cap l a c s' := by
  have hg := h0.lt
  have hb := h0.rdr.lt
  have hn := h.new
  exact ⟨h.turn.trans T, S, h.box.turn T (by omega) (by omega), h.res.turn T (by omega) (by omega), h.new⟩
theorem Com.put (h : Com w W q g b sa n cap l a c s) (h0 : Scs w g b sa n cap l a s0) (o : Nat) (u : Value) (hb : Bx (W.setCell ⟨q, o, none⟩ u) q c') : Com w (W.setCell ⟨q, o, none⟩ u) q g b sa n cap l a c' s := by
  have hn := h.new
  have T : Touch q W (W.setCell ⟨q, o, none⟩ u) := (Touch.refl q W).setB _
  exact ⟨h.turn.setNew u (by omega), h0.fresh (by omega) h.scs T, hb, h.res.beside T (by omega), h.new⟩
end
end Go.Proofs.YtlhididcanedhaaGreatDoor
