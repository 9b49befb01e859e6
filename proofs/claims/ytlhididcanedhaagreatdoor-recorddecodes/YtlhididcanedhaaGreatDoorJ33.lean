/- Texts of the proof, joined. -/
import Derived.Test.YtlhididcanedhaaGreatDoorJ32
import Derived.Test.YtlhididcanedhaaGreatDoorJ31
import Derived.Test.YtlhididcanedhaaGreatDoorJ16
import Derived.Deep.RegionHeld3
/- The document's own Decode of commands. -/
namespace Go.Proofs.YtlhididcanedhaaGreatDoor
open Go.RowKit Go.Wire1

/-- What has been read behind i letters. -/
def rcGo (v : Int) (s : ByteArray) (l : List Int) (c0 : Cm) : Nat → Cm × Nat × Int
  | 0 => (c0, 1, 0)
  | i + 1 => if (rcGo v s l c0 i).2.2 = 0 then rcF v (tb s i) (rcGo v s l c0 i).1 l (rcGo v s l c0 i).2.1 else rcGo v s l c0 i
theorem rcGo_next {v : Int} {s : ByteArray} {l : List Int} {c0 : Cm} {i : Nat} (h : (rcGo v s l c0 i).2.2 = 0) : rcGo v s l c0 (i + 1) = rcF v (tb s i) (rcGo v s l c0 i).1 l (rcGo v s l c0 i).2.1 := by
  show (if _ then _ else _) = _
  rw [if_pos h]
theorem rcGo_stay {v : Int} {s : ByteArray} {l : List Int} {c0 : Cm} {i : Nat} (h : (rcGo v s l c0 i).2.2 ≠ 0) : ∀ j, rcGo v s l c0 (i + j) = rcGo v s l c0 i
  | 0 => rfl
  | j + 1 => by
    have e := rcGo_stay h j
    show (if (rcGo v s l c0 (i + j)).2.2 = 0 then _ else rcGo v s l c0 (i + j)) = _
    rw [e, if_neg h]
theorem rcF_key {v x : Int} {c : Cm} {l : List Int} {k : Nat} (h : c.key.size ≤ 64) : (rcF v x c l k).1.key.size ≤ 64 := by
  unfold rcF
  split
  · exact h
  · split
    · exact h
    · split
      · exact rcT_size _ _ _ _ _ _
      · split
        · exact h
        · split
          · exact h
          · split
            · exact h
            · exact h
theorem rcGo_key {v : Int} {s : ByteArray} {l : List Int} {c0 : Cm} (h : c0.key.size ≤ 64) : ∀ i, (rcGo v s l c0 i).1.key.size ≤ 64
  | 0 => h
  | i + 1 => by
    show (if _ then _ else _ : Cm × Nat × Int).1.key.size ≤ 64
    split
    · exact rcF_key (rcGo_key h i)
    · exact rcGo_key h i
def rcD (v : Int) (l : List Int) : Cm × Nat × Int :=
  if isVer v then (match l with
    | [] => (zeroC, 0, 11)
    | x :: _ => if knownR v x then (if (rcGo v (fldS x) l { zeroC with kind := x } (fldS x).size).2.2 = 0 then rcGo v (fldS x) l { zeroC with kind := x } (fldS x).size else (zeroC, 0, (rcGo v (fldS x) l { zeroC with kind := x } (fldS x).size).2.2)) else (zeroC, 0, 41))
  else (zeroC, 0, 2)

theorem let_of {kind : Int} (h0 : 0 ≤ kind) (h8 : kind ≤ 8) {i : Nat} (hi : i < (fldS kind).size) : tb (fldS kind) i = 99 ∨ tb (fldS kind) i = 114 ∨ tb (fldS kind) i = 107 ∨ tb (fldS kind) i = 106 ∨ tb (fldS kind) i = 111 ∨ tb (fldS kind) i = 118 ∨ tb (fldS kind) i = 110 := by
  have key : ∀ k : Fin 9, ∀ j : Fin 5, j.val < (fldS (k.val : Int)).size → tb (fldS (k.val : Int)) j.val = 99 ∨ tb (fldS (k.val : Int)) j.val = 114 ∨ tb (fldS (k.val : Int)) j.val = 107 ∨ tb (fldS (k.val : Int)) j.val = 106 ∨ tb (fldS (k.val : Int)) j.val = 111 ∨ tb (fldS (k.val : Int)) j.val = 118 ∨ tb (fldS (k.val : Int)) j.val = 110 := by decide +kernel
  have h5 := fldS_size kind
  have := key ⟨kind.toNat, by omega⟩ ⟨i, by omega⟩
  simp only [Int.toNat_of_nonneg h0] at this
  exact this hi

theorem Bx.kind {w : World} {q : Nat} {c : Cm} (h : Bx w q c) (x : Int) : Bx (w.setCell ⟨q, 0, none⟩ (.int .i64 x)) q { c with kind := x } := by
  obtain ⟨h0, h1, h2, h3, h4, h5, h6, h7⟩ := h.box
  refine ⟨⟨World.cell?_setCell_same w ⟨q, 0, none⟩ _ h0, ?_, ?_, ?_, ?_, ?_, ?_, ?_⟩, h.setThaw _ _⟩ <;> (rw [World.cell?_setCell_other _ _ _ _ (by simp)]; assumption)
theorem Bx.all {w : World} {q : Nat} {c : Cm} (h : Bx w q c) (d : Cm) : Bx ((((((((w.setCell ⟨q, 0, none⟩ (.int .i64 d.kind)).setCell ⟨q, 1, none⟩ (.int .i64 d.client)).setCell ⟨q, 2, none⟩ (.int .i64 d.req)).setCell ⟨q, 3, none⟩ (.string d.key)).setCell ⟨q, 4, none⟩ (.string d.key2)).setCell ⟨q, 5, none⟩ (.string d.val)).setCell ⟨q, 6, none⟩ (.string d.old)).setCell ⟨q, 7, none⟩ (.int .i64 d.n)) q d :=
  (((((((h.kind d.kind).client d.client).req d.req).key d.key).key2 d.key2).val d.val).old d.old).n d.n

/-- In the midst of the document's Decode: w the world at the call, W the world now. -/
structure Dcd (w W : World) (sa : Option Addr) (n cap k : Nat) (f : Int) (l : List Int) (a : Nat → Addr) (c : Cm) : Prop where
  below : Below w.heap.size w W
  rdr : Rdr W (w.heap.size + 1 + 1) sa n cap k f l a
  box : Bx W (w.heap.size + 1) c
  res : Bx W w.heap.size zeroC
section
variable {w W W' : World} {sa : Option Addr} {n cap k k' k0 : Nat} {f f' f0 : Int} {l : List Int} {a : Nat → Addr} {c c' : Cm}
theorem Dcd.drewN (h : Dcd w W sa n cap k f l a c) (q : Nat) : Dcd w (W.drewN q) sa n cap k f l a c :=
  ⟨⟨h.below.os, h.below.tape, h.below.output, h.below.size, h.below.block⟩, h.rdr.drewN q, h.box.of_block rfl, h.res.of_block rfl⟩
theorem Dcd.call (h : Dcd w W sa n cap k f l a c) (T : Touch (w.heap.size + 1 + 1) W W') (R : Rdr W' (w.heap.size + 1 + 1) sa n cap k' f' l a) : Dcd w W' sa n cap k' f' l a c :=
  ⟨T.below (w0 := w) (by omega) h.below, R, h.box.beside T (by omega), h.res.beside T (by omega)⟩
theorem Dcd.put (h : Dcd w W sa n cap k f l a c) (hs : Seg w sa n l) (he : Errs w a) (d : Cm) : Dcd w ((((((((W.setCell ⟨w.heap.size + 1, 0, none⟩ (.int .i64 d.kind)).setCell ⟨w.heap.size + 1, 1, none⟩ (.int .i64 d.client)).setCell ⟨w.heap.size + 1, 2, none⟩ (.int .i64 d.req)).setCell ⟨w.heap.size + 1, 3, none⟩ (.string d.key)).setCell ⟨w.heap.size + 1, 4, none⟩ (.string d.key2)).setCell ⟨w.heap.size + 1, 5, none⟩ (.string d.val)).setCell ⟨w.heap.size + 1, 6, none⟩ (.string d.old)).setCell ⟨w.heap.size + 1, 7, none⟩ (.int .i64 d.n)) sa n cap k f l a d := by
  have h5 := he.five
  have T : Touch (w.heap.size + 1) W ((((((((W.setCell ⟨w.heap.size + 1, 0, none⟩ (.int .i64 d.kind)).setCell ⟨w.heap.size + 1, 1, none⟩ (.int .i64 d.client)).setCell ⟨w.heap.size + 1, 2, none⟩ (.int .i64 d.req)).setCell ⟨w.heap.size + 1, 3, none⟩ (.string d.key)).setCell ⟨w.heap.size + 1, 4, none⟩ (.string d.key2)).setCell ⟨w.heap.size + 1, 5, none⟩ (.string d.val)).setCell ⟨w.heap.size + 1, 6, none⟩ (.string d.old)).setCell ⟨w.heap.size + 1, 7, none⟩ (.int .i64 d.n)) := ((((((((Touch.refl _ W).setB _).setB _).setB _).setB _).setB _).setB _).setB _).setB _
  exact ⟨T.below (w0 := w) (by omega) h.below, h.rdr.beside T (by omega) (fun x hx hn => by have := hs.lt hn hx; omega) (by omega) (fun i hi => by have := he.lt i hi; omega), h.box.all d, h.res.beside T (by omega)⟩
end

theorem dcd_new {w : World} {sa : Option Addr} {n cap : Nat} {l : List Int} {a : Nat → Addr} (x : Int) (hs : Seg w sa n l) (hy : Byt l) (he : Errs w a) (hc : n ≤ cap) (hcm : cap ≤ 9223372036854775807) (hn : 1 ≤ n) :
    Dcd w (((w.alloc (.cells #[.int .i64 0, .int .i64 0, .int .i64 0, .string ⟨#[]⟩, .string ⟨#[]⟩, .string ⟨#[]⟩, .string ⟨#[]⟩, .int .i64 0] 27)).alloc (.cells #[.int .i64 x, .int .i64 0, .int .i64 0, .string ⟨#[]⟩, .string ⟨#[]⟩, .string ⟨#[]⟩, .string ⟨#[]⟩, .int .i64 0] 27)).alloc (.cells #[.slice sa n cap, .int .i64 1, .int .i64 0] 158)) sa n cap 1 0 l a { zeroC with kind := x } := by
  have h5 := he.five
  obtain ⟨A, hA⟩ : ∃ A, A = w.alloc (.cells #[.int .i64 0, .int .i64 0, .int .i64 0, .string ⟨#[]⟩, .string ⟨#[]⟩, .string ⟨#[]⟩, .string ⟨#[]⟩, .int .i64 0] 27) := ⟨_, rfl⟩
  have sA : A.heap.size = w.heap.size + 1 := by rw [hA]; simp
  obtain ⟨B, hB⟩ : ∃ B, B = A.alloc (.cells #[.int .i64 x, .int .i64 0, .int .i64 0, .string ⟨#[]⟩, .string ⟨#[]⟩, .string ⟨#[]⟩, .string ⟨#[]⟩, .int .i64 0] 27) := ⟨_, rfl⟩
  have sB : B.heap.size = w.heap.size + 1 + 1 := by rw [hB]; simp [sA]
  have b1 : Below w.heap.size w B := by rw [hB, hA]; exact ((Below.refl _ w).alloc (Nat.le_refl _) _).alloc (by simp) _
  have b2 : Below B.heap.size B (B.alloc (.cells #[.slice sa n cap, .int .i64 1, .int .i64 0] 158)) := (Below.refl _ _).alloc (Nat.le_refl _) _
  have x1 : Bx A w.heap.size zeroC := by rw [hA]; exact bx_new w 27 0 0 0 ⟨#[]⟩ ⟨#[]⟩ ⟨#[]⟩ ⟨#[]⟩ 0
  have x2 : Bx B (w.heap.size + 1) { zeroC with kind := x } := by
    have := bx_new A 27 x 0 0 ⟨#[]⟩ ⟨#[]⟩ ⟨#[]⟩ ⟨#[]⟩ 0
    rw [sA] at this; rw [hB]; exact this
  have x3 : Bx B w.heap.size zeroC := by
    refine x1.of_block ?_
    rw [hB]; exact Below.block ((Below.refl _ A).alloc (Nat.le_refl _) _) _ (by omega)
  rw [← hA, ← hB]
  refine ⟨b1.trans (b2.mono (by omega)), ?_, x2.of_block (b2.block _ (by omega)), x3.of_block (b2.block _ (by omega))⟩
  rw [← sB]
  exact ⟨⟨⟨by rw [World.cell?_alloc_at _ _ _ _ rfl]; rfl, by rw [World.cell?_alloc_at _ _ _ _ rfl]; rfl, World.frozen?_alloc_at _ _ _ _ rfl⟩, (hs.below b1 (Nat.le_refl _)).below b2 (Nat.le_refl _), fun x hx hn => by have := hs.lt hn hx; omega, hy, hn, (he.below b1 (Nat.le_refl _)).below b2 (Nat.le_refl _), by omega, fun i hi => by have := he.lt i hi; omega⟩, by rw [World.cell?_alloc_at _ _ _ _ rfl]; rfl, World.frozen?_alloc_at _ _ _ _ rfl, hc, by unfold maxLen; omega⟩

theorem low_drew {B : Nat} {x y : World} (h : Below B x y) : Below B x y.drew := ⟨h.os, h.tape, h.output, h.size, h.block⟩
set_option maxHeartbeats 2000000 in
set_option maxRecDepth 100000 in
theorem rcDec_good1 (x : Int) (r : List Int) (sb so n cap : Nat) (l : List Int) (a : Nat → Addr) (w : World) (hs : Seg w (some ⟨sb, so, none⟩) n l) (hy : Byt l) (he : Errs w a) (hc : n ≤ cap) (hcm : cap ≤ 9223372036854775807) (hl : l = x :: r) (hk : knownR 1 x = true) :
    Calls Tryz.prog 106 #[.int .i64 1, .slice (some ⟨sb, so, none⟩) n cap] w fun e w' => e = .returned (.tuple #[.agg #[.int .i64 (rcD 1 l).1.kind, .int .i64 (rcD 1 l).1.client, .int .i64 (rcD 1 l).1.req, .string (rcD 1 l).1.key, .string (rcD 1 l).1.key2, .string (rcD 1 l).1.val, .string (rcD 1 l).1.old, .int .i64 (rcD 1 l).1.n], .int .i64 ((rcD 1 l).2.1 : Nat), .int .i64 (rcD 1 l).2.2]) ∧ Below w.heap.size w w' := by
  have hn0 : 0 < n := by rw [← hs.1, hl]; simp
  have x0 : w.cell? ⟨sb, so, none⟩ = some (.int .u8 x) := by
    obtain ⟨b', o', e', hc'⟩ := hs.2.2 hn0
    cases e'
    have := hc' 0 hn0
    rw [hl] at this; simpa using this
  have hxb : 0 ≤ x ∧ x < 256 := hy x (by rw [hl]; simp)
  have hsb : sb < w.heap.size := cell_lt x0
  have hw1 : IntKind.i64.wrap x = x := by rw [IntKind.wrap_i64]; omega
  obtain ⟨s, hsS⟩ : ∃ s, Hid (fldS x = s) := ⟨_, rfl⟩
  have hx8 : 0 ≤ x ∧ x ≤ 8 := by
    unfold knownR at hk
    split at hk <;> simp at hk <;> omega
  have h5 : s.size ≤ 5 := by rw [← hsS.out]; exact fldS_size _
  have LET : Hid (∀ i, i < s.size → tb s i = 99 ∨ tb s i = 114 ∨ tb s i = 107 ∨ tb s i = 106 ∨ tb s i = 111 ∨ tb s i = 118 ∨ tb s i = 110) := by
    intro i hi; rw [← hsS.out] at hi ⊢; exact let_of hx8.1 hx8.2 hi
  have HS := hide hs
  have HY := hide hy
  have HE := hide he
  have HK := hide hk
  have HQ : Hid (rcD 1 l = if (rcGo 1 (fldS x) l { zeroC with kind := x } (fldS x).size).2.2 = 0 then rcGo 1 (fldS x) l { zeroC with kind := x } (fldS x).size else (zeroC, 0, (rcGo 1 (fldS x) l { zeroC with kind := x } (fldS x).size).2.2)) := by
    subst hl
    unfold rcD
    rw [if_pos (show isVer 1 = true from rfl)]
    show (if knownR 1 x then _ else _) = _
    rw [if_pos hk]
  rw [hsS.out] at HQ
  clear hs hy he hk hl
  obtain ⟨W0, hW0⟩ : ∃ W0, W0 = (((w.alloc (.cells #[.int .i64 0, .int .i64 0, .int .i64 0, .string ⟨#[]⟩, .string ⟨#[]⟩, .string ⟨#[]⟩, .string ⟨#[]⟩, .int .i64 0] 27)).alloc (.cells #[.int .i64 x, .int .i64 0, .int .i64 0, .string ⟨#[]⟩, .string ⟨#[]⟩, .string ⟨#[]⟩, .string ⟨#[]⟩, .int .i64 0] 27)).alloc (.cells #[.slice (some ⟨sb, so, none⟩) n cap, .int .i64 1, .int .i64 0] 158)) := ⟨_, rfl⟩
  have D0 : Hid (Dcd w W0 (some ⟨sb, so, none⟩) n cap 1 0 l a { zeroC with kind := x }) := by rw [hW0]; exact dcd_new x HS.out HY.out HE.out hc hcm hn0
  have KEY : Hid (∀ i, (rcGo 1 s l { zeroC with kind := x } i).1.key.size ≤ 64) := rcGo_key (by show (0 : Nat) ≤ 64; omega)
  obtain ⟨G, hG⟩ : ∃ G, Hid (rcGo 1 s l { zeroC with kind := x } = G) := ⟨_, rfl⟩
  have G0 : Hid (G 0 = ({ zeroC with kind := x }, 1, 0)) := by rw [← hG.out]; rfl
  have GN : Hid (∀ i, (G i).2.2 = 0 → G (i + 1) = rcF 1 (tb s i) (G i).1 l (G i).2.1) := fun i => by rw [← hG.out]; exact rcGo_next
  have GS : Hid (∀ i j, (G i).2.2 ≠ 0 → G (i + j) = G i) := fun i j h => by rw [← hG.out] at h ⊢; exact rcGo_stay h j
  rw [hG.out] at KEY HQ
  clear hG
  go_enter Tryz.func106, Tryz.ntmps106
  go_wp2_with fail
  refine (rknown_any 1 x _).mono ?_
  rintro e w0 ⟨rfl, rfl⟩
  rw [HK.out]
  go_wp2_with fail
  refine (rfields_any x _).mono ?_
  rintro e w0 ⟨rfl, rfl⟩
  rw [hsS.out]
  go_wp2_with fail
  rw [← hW0]
  clear hW0
  go_loopw [11] (fun u wr => ∃ (i : Nat) (c : Cm) (k : Nat) (f : Int), u = .int .i64 (i : Int) ∧ i ≤ s.size ∧ Hid (G i = (c, k, f)) ∧ Hid (Dcd w wr (some ⟨sb, so, none⟩) n cap k f l a c)) (fun u _ => s.size - (intOf u).toNat)
  case atStart => exact ⟨0, _, _, _, rfl, by omega, G0, D0⟩
  case round =>
    clear D0 G0
    obtain ⟨i, c, k, f, rfl, hi, HG, HD⟩ := hrel
    have e2 := HD.out.rdr.fault
    by_cases hlt : i < s.size
    · have d1 : decide ((i : Int) < (s.size : Int)) = true := decide_eq_true (by omega)
      by_cases hf : f = 0
      · subst hf
        have hix := tb_index s i hlt
        have HF : Hid (G (i + 1) = rcF 1 (tb s i) c l k) := by have := GN.out i; rw [HG.out] at this; exact this rfl
        have hck : c.key.size ≤ 64 := by have := KEY.out i; rw [HG.out] at this; exact this
        have hll := LET.out i hlt
        obtain ⟨b, hb⟩ : ∃ b, Hid (tb s i = b) := ⟨_, rfl⟩
        rw [hb.out] at hix HF hll
        have y0 : wr.cell? ⟨w.heap.size + 1, 0, none⟩ = some (.int .i64 c.kind) := HD.out.box.box.1
        have fy0 : wr.frozen? ⟨w.heap.size + 1, 0, none⟩ = false := HD.out.box.thaw 0
        have y1 : wr.cell? ⟨w.heap.size + 1, 1, none⟩ = some (.int .i64 c.client) := HD.out.box.box.2.1
        have fy1 : wr.frozen? ⟨w.heap.size + 1, 1, none⟩ = false := HD.out.box.thaw 1
        have y2 : wr.cell? ⟨w.heap.size + 1, 2, none⟩ = some (.int .i64 c.req) := HD.out.box.box.2.2.1
        have fy2 : wr.frozen? ⟨w.heap.size + 1, 2, none⟩ = false := HD.out.box.thaw 2
        have y3 : wr.cell? ⟨w.heap.size + 1, 3, none⟩ = some (.string c.key) := HD.out.box.box.2.2.2.1
        have fy3 : wr.frozen? ⟨w.heap.size + 1, 3, none⟩ = false := HD.out.box.thaw 3
        have y4 : wr.cell? ⟨w.heap.size + 1, 4, none⟩ = some (.string c.key2) := HD.out.box.box.2.2.2.2.1
        have fy4 : wr.frozen? ⟨w.heap.size + 1, 4, none⟩ = false := HD.out.box.thaw 4
        have y5 : wr.cell? ⟨w.heap.size + 1, 5, none⟩ = some (.string c.val) := HD.out.box.box.2.2.2.2.2.1
        have fy5 : wr.frozen? ⟨w.heap.size + 1, 5, none⟩ = false := HD.out.box.thaw 5
        have y6 : wr.cell? ⟨w.heap.size + 1, 6, none⟩ = some (.string c.old) := HD.out.box.box.2.2.2.2.2.2.1
        have fy6 : wr.frozen? ⟨w.heap.size + 1, 6, none⟩ = false := HD.out.box.thaw 6
        have y7 : wr.cell? ⟨w.heap.size + 1, 7, none⟩ = some (.int .i64 c.n) := HD.out.box.box.2.2.2.2.2.2.2
        have fy7 : wr.frozen? ⟨w.heap.size + 1, 7, none⟩ = false := HD.out.box.thaw 7
        have HCk := hide hck
        have HLl := hide hll
        clear hck hll
        go_wp2
        go_region_with (first | (go_at_call 135; refine (field_any 1 b c (w.heap.size + 1 + 1) n cap k _ l a _ HLl.out HCk.out (HD.out.drewN _).rdr).mono ?_; rintro e w5 ⟨rfl, T5, R5⟩; have D5 := hide ((HD.out.drewN _).call T5 R5); have z0 := D5.out.box.box.1; have fz0 := D5.out.box.thaw 0; have z1 := D5.out.box.box.2.1; have fz1 := D5.out.box.thaw 1; have z2 := D5.out.box.box.2.2.1; have fz2 := D5.out.box.thaw 2; have z3 := D5.out.box.box.2.2.2.1; have fz3 := D5.out.box.thaw 3; have z4 := D5.out.box.box.2.2.2.2.1; have fz4 := D5.out.box.thaw 4; have z5 := D5.out.box.box.2.2.2.2.2.1; have fz5 := D5.out.box.thaw 5; have z6 := D5.out.box.box.2.2.2.2.2.2.1; have fz6 := D5.out.box.thaw 6; have z7 := D5.out.box.box.2.2.2.2.2.2.2; have fz7 := D5.out.box.thaw 7; clear T5 R5))
        all_goals
          go_wp2
          go_roundw
          case rel => exact ⟨i + 1, _, _, _, by go_num, by omega, HF, D5.out.put HS.out HE.out _⟩
          case measure => simp [intOf]; omega
      · have this : G s.size = (c, k, f) := by
          have h := GS.out i (s.size - i) (by rw [HG.out]; exact hf)
          rw [show i + (s.size - i) = s.size by omega, HG.out] at h
          exact h
        have HT := hide this
        clear this
        have df : (f == 0) = false := beq_eq_false_iff_ne.2 hf
        have dn : (f != 0) = true := by rw [bne_iff_ne]; exact hf
        have HA : Hid (rcD 1 l = (zeroC, 0, f)) := by
          have this := HT.out
          rw [HQ.out, this, if_neg hf]; rfl
        have r0 : wr.cell? ⟨w.heap.size, 0, none⟩ = some (.int .i64 0) := HD.out.res.box.1
        have fr0 : wr.frozen? ⟨w.heap.size, 0, none⟩ = false := HD.out.res.thaw 0
        have r1 : wr.cell? ⟨w.heap.size, 1, none⟩ = some (.int .i64 0) := HD.out.res.box.2.1
        have fr1 : wr.frozen? ⟨w.heap.size, 1, none⟩ = false := HD.out.res.thaw 1
        have r2 : wr.cell? ⟨w.heap.size, 2, none⟩ = some (.int .i64 0) := HD.out.res.box.2.2.1
        have fr2 : wr.frozen? ⟨w.heap.size, 2, none⟩ = false := HD.out.res.thaw 2
        have r3 : wr.cell? ⟨w.heap.size, 3, none⟩ = some (.string ⟨#[]⟩) := HD.out.res.box.2.2.2.1
        have fr3 : wr.frozen? ⟨w.heap.size, 3, none⟩ = false := HD.out.res.thaw 3
        have r4 : wr.cell? ⟨w.heap.size, 4, none⟩ = some (.string ⟨#[]⟩) := HD.out.res.box.2.2.2.2.1
        have fr4 : wr.frozen? ⟨w.heap.size, 4, none⟩ = false := HD.out.res.thaw 4
        have r5 : wr.cell? ⟨w.heap.size, 5, none⟩ = some (.string ⟨#[]⟩) := HD.out.res.box.2.2.2.2.2.1
        have fr5 : wr.frozen? ⟨w.heap.size, 5, none⟩ = false := HD.out.res.thaw 5
        have r6 : wr.cell? ⟨w.heap.size, 6, none⟩ = some (.string ⟨#[]⟩) := HD.out.res.box.2.2.2.2.2.2.1
        have fr6 : wr.frozen? ⟨w.heap.size, 6, none⟩ = false := HD.out.res.thaw 6
        have r7 : wr.cell? ⟨w.heap.size, 7, none⟩ = some (.int .i64 0) := HD.out.res.box.2.2.2.2.2.2.2
        have fr7 : wr.frozen? ⟨w.heap.size, 7, none⟩ = false := HD.out.res.thaw 7
        have hwl : w.heap.size + 1 + 1 < wr.heap.size := HD.out.rdr.lt
        have hw0 : w.heap.size < wr.heap.size := HD.out.res.lt
        clear hf
        go_wp2
        go_region
        go_wp2
        rw [HA.out]
        refine bodyPost_ret (v := .tuple #[.agg #[.int .i64 zeroC.kind, .int .i64 zeroC.client, .int .i64 zeroC.req, .string zeroC.key, .string zeroC.key2, .string zeroC.val, .string zeroC.old, .int .i64 zeroC.n], .int .i64 0, .int .i64 f]) (by simp [results, Tryz.results106, go_sem, zeroC, *]) rfl ⟨rfl, ?_⟩
        refine low_new ?_ _
        iterate 8 refine set_low ?_ _ _
        exact HD.out.below
    · have d1 : decide ((i : Int) < (s.size : Int)) = false := decide_eq_false (by omega)
      have HT : Hid (G s.size = (c, k, f)) := by rw [show s.size = i by omega]; exact HG
      have e1 : wr.cell? ⟨w.heap.size + 1 + 1, 1, none⟩ = some (.int .i64 (k : Int)) := HD.out.rdr.ready.cur.2.1
      by_cases hf : f = 0
      · subst hf
        have HA : Hid (rcD 1 l = (c, k, 0)) := by rw [HQ.out, HT.out, if_pos rfl]; rfl
        have r0 : wr.cell? ⟨w.heap.size, 0, none⟩ = some (.int .i64 0) := HD.out.res.box.1
        have fr0 : wr.frozen? ⟨w.heap.size, 0, none⟩ = false := HD.out.res.thaw 0
        have r1 : wr.cell? ⟨w.heap.size, 1, none⟩ = some (.int .i64 0) := HD.out.res.box.2.1
        have fr1 : wr.frozen? ⟨w.heap.size, 1, none⟩ = false := HD.out.res.thaw 1
        have r2 : wr.cell? ⟨w.heap.size, 2, none⟩ = some (.int .i64 0) := HD.out.res.box.2.2.1
        have fr2 : wr.frozen? ⟨w.heap.size, 2, none⟩ = false := HD.out.res.thaw 2
        have r3 : wr.cell? ⟨w.heap.size, 3, none⟩ = some (.string ⟨#[]⟩) := HD.out.res.box.2.2.2.1
        have fr3 : wr.frozen? ⟨w.heap.size, 3, none⟩ = false := HD.out.res.thaw 3
        have r4 : wr.cell? ⟨w.heap.size, 4, none⟩ = some (.string ⟨#[]⟩) := HD.out.res.box.2.2.2.2.1
        have fr4 : wr.frozen? ⟨w.heap.size, 4, none⟩ = false := HD.out.res.thaw 4
        have r5 : wr.cell? ⟨w.heap.size, 5, none⟩ = some (.string ⟨#[]⟩) := HD.out.res.box.2.2.2.2.2.1
        have fr5 : wr.frozen? ⟨w.heap.size, 5, none⟩ = false := HD.out.res.thaw 5
        have r6 : wr.cell? ⟨w.heap.size, 6, none⟩ = some (.string ⟨#[]⟩) := HD.out.res.box.2.2.2.2.2.2.1
        have fr6 : wr.frozen? ⟨w.heap.size, 6, none⟩ = false := HD.out.res.thaw 6
        have r7 : wr.cell? ⟨w.heap.size, 7, none⟩ = some (.int .i64 0) := HD.out.res.box.2.2.2.2.2.2.2
        have fr7 : wr.frozen? ⟨w.heap.size, 7, none⟩ = false := HD.out.res.thaw 7
        have y0 : wr.cell? ⟨w.heap.size + 1, 0, none⟩ = some (.int .i64 c.kind) := HD.out.box.box.1
        have y1 : wr.cell? ⟨w.heap.size + 1, 1, none⟩ = some (.int .i64 c.client) := HD.out.box.box.2.1
        have y2 : wr.cell? ⟨w.heap.size + 1, 2, none⟩ = some (.int .i64 c.req) := HD.out.box.box.2.2.1
        have y3 : wr.cell? ⟨w.heap.size + 1, 3, none⟩ = some (.string c.key) := HD.out.box.box.2.2.2.1
        have y4 : wr.cell? ⟨w.heap.size + 1, 4, none⟩ = some (.string c.key2) := HD.out.box.box.2.2.2.2.1
        have y5 : wr.cell? ⟨w.heap.size + 1, 5, none⟩ = some (.string c.val) := HD.out.box.box.2.2.2.2.2.1
        have y6 : wr.cell? ⟨w.heap.size + 1, 6, none⟩ = some (.string c.old) := HD.out.box.box.2.2.2.2.2.2.1
        have y7 : wr.cell? ⟨w.heap.size + 1, 7, none⟩ = some (.int .i64 c.n) := HD.out.box.box.2.2.2.2.2.2.2
        go_wp2
        go_region
        go_wp2
        rw [HA.out]
        refine bodyPost_ret (v := .tuple #[.agg #[.int .i64 c.kind, .int .i64 c.client, .int .i64 c.req, .string c.key, .string c.key2, .string c.val, .string c.old, .int .i64 c.n], .int .i64 (k : Int), .int .i64 0]) (by simp [results, Tryz.results106, go_sem, *]) rfl ⟨rfl, ?_⟩
        refine low_drew ?_
        iterate 8 refine set_low ?_ _ _
        exact HD.out.below
      · clear e1
        have df : (f == 0) = false := beq_eq_false_iff_ne.2 hf
        have dn : (f != 0) = true := by rw [bne_iff_ne]; exact hf
        have HA : Hid (rcD 1 l = (zeroC, 0, f)) := by
          have this := HT.out
          rw [HQ.out, this, if_neg hf]; rfl
        have r0 : wr.cell? ⟨w.heap.size, 0, none⟩ = some (.int .i64 0) := HD.out.res.box.1
        have fr0 : wr.frozen? ⟨w.heap.size, 0, none⟩ = false := HD.out.res.thaw 0
        have r1 : wr.cell? ⟨w.heap.size, 1, none⟩ = some (.int .i64 0) := HD.out.res.box.2.1
        have fr1 : wr.frozen? ⟨w.heap.size, 1, none⟩ = false := HD.out.res.thaw 1
        have r2 : wr.cell? ⟨w.heap.size, 2, none⟩ = some (.int .i64 0) := HD.out.res.box.2.2.1
        have fr2 : wr.frozen? ⟨w.heap.size, 2, none⟩ = false := HD.out.res.thaw 2
        have r3 : wr.cell? ⟨w.heap.size, 3, none⟩ = some (.string ⟨#[]⟩) := HD.out.res.box.2.2.2.1
        have fr3 : wr.frozen? ⟨w.heap.size, 3, none⟩ = false := HD.out.res.thaw 3
        have r4 : wr.cell? ⟨w.heap.size, 4, none⟩ = some (.string ⟨#[]⟩) := HD.out.res.box.2.2.2.2.1
        have fr4 : wr.frozen? ⟨w.heap.size, 4, none⟩ = false := HD.out.res.thaw 4
        have r5 : wr.cell? ⟨w.heap.size, 5, none⟩ = some (.string ⟨#[]⟩) := HD.out.res.box.2.2.2.2.2.1
        have fr5 : wr.frozen? ⟨w.heap.size, 5, none⟩ = false := HD.out.res.thaw 5
        have r6 : wr.cell? ⟨w.heap.size, 6, none⟩ = some (.string ⟨#[]⟩) := HD.out.res.box.2.2.2.2.2.2.1
        have fr6 : wr.frozen? ⟨w.heap.size, 6, none⟩ = false := HD.out.res.thaw 6
        have r7 : wr.cell? ⟨w.heap.size, 7, none⟩ = some (.int .i64 0) := HD.out.res.box.2.2.2.2.2.2.2
        have fr7 : wr.frozen? ⟨w.heap.size, 7, none⟩ = false := HD.out.res.thaw 7
        have hwl : w.heap.size + 1 + 1 < wr.heap.size := HD.out.rdr.lt
        have hw0 : w.heap.size < wr.heap.size := HD.out.res.lt
        clear hf
        go_wp2
        go_region
        go_wp2
        rw [HA.out]
        refine bodyPost_ret (v := .tuple #[.agg #[.int .i64 zeroC.kind, .int .i64 zeroC.client, .int .i64 zeroC.req, .string zeroC.key, .string zeroC.key2, .string zeroC.val, .string zeroC.old, .int .i64 zeroC.n], .int .i64 0, .int .i64 f]) (by simp [results, Tryz.results106, go_sem, zeroC, *]) rfl ⟨rfl, ?_⟩
        refine low_new ?_ _
        iterate 8 refine set_low ?_ _ _
        exact HD.out.below
set_option maxHeartbeats 2000000 in
set_option maxRecDepth 100000 in
theorem rcDec_good2 (x : Int) (r : List Int) (sb so n cap : Nat) (l : List Int) (a : Nat → Addr) (w : World) (hs : Seg w (some ⟨sb, so, none⟩) n l) (hy : Byt l) (he : Errs w a) (hc : n ≤ cap) (hcm : cap ≤ 9223372036854775807) (hl : l = x :: r) (hk : knownR 2 x = true) :
    Calls Tryz.prog 106 #[.int .i64 2, .slice (some ⟨sb, so, none⟩) n cap] w fun e w' => e = .returned (.tuple #[.agg #[.int .i64 (rcD 2 l).1.kind, .int .i64 (rcD 2 l).1.client, .int .i64 (rcD 2 l).1.req, .string (rcD 2 l).1.key, .string (rcD 2 l).1.key2, .string (rcD 2 l).1.val, .string (rcD 2 l).1.old, .int .i64 (rcD 2 l).1.n], .int .i64 ((rcD 2 l).2.1 : Nat), .int .i64 (rcD 2 l).2.2]) ∧ Below w.heap.size w w' := by
  have hn0 : 0 < n := by rw [← hs.1, hl]; simp
  have x0 : w.cell? ⟨sb, so, none⟩ = some (.int .u8 x) := by
    obtain ⟨b', o', e', hc'⟩ := hs.2.2 hn0
    cases e'
    have := hc' 0 hn0
    rw [hl] at this; simpa using this
  have hxb : 0 ≤ x ∧ x < 256 := hy x (by rw [hl]; simp)
  have hsb : sb < w.heap.size := cell_lt x0
  have hw1 : IntKind.i64.wrap x = x := by rw [IntKind.wrap_i64]; omega
  obtain ⟨s, hsS⟩ : ∃ s, Hid (fldS x = s) := ⟨_, rfl⟩
  have hx8 : 0 ≤ x ∧ x ≤ 8 := by
    unfold knownR at hk
    split at hk <;> simp at hk <;> omega
  have h5 : s.size ≤ 5 := by rw [← hsS.out]; exact fldS_size _
  have LET : Hid (∀ i, i < s.size → tb s i = 99 ∨ tb s i = 114 ∨ tb s i = 107 ∨ tb s i = 106 ∨ tb s i = 111 ∨ tb s i = 118 ∨ tb s i = 110) := by
    intro i hi; rw [← hsS.out] at hi ⊢; exact let_of hx8.1 hx8.2 hi
  have HS := hide hs
  have HY := hide hy
  have HE := hide he
  have HK := hide hk
  have HQ : Hid (rcD 2 l = if (rcGo 2 (fldS x) l { zeroC with kind := x } (fldS x).size).2.2 = 0 then rcGo 2 (fldS x) l { zeroC with kind := x } (fldS x).size else (zeroC, 0, (rcGo 2 (fldS x) l { zeroC with kind := x } (fldS x).size).2.2)) := by
    subst hl
    unfold rcD
    rw [if_pos (show isVer 2 = true from rfl)]
    show (if knownR 2 x then _ else _) = _
    rw [if_pos hk]
  rw [hsS.out] at HQ
  clear hs hy he hk hl
  obtain ⟨W0, hW0⟩ : ∃ W0, W0 = (((w.alloc (.cells #[.int .i64 0, .int .i64 0, .int .i64 0, .string ⟨#[]⟩, .string ⟨#[]⟩, .string ⟨#[]⟩, .string ⟨#[]⟩, .int .i64 0] 27)).alloc (.cells #[.int .i64 x, .int .i64 0, .int .i64 0, .string ⟨#[]⟩, .string ⟨#[]⟩, .string ⟨#[]⟩, .string ⟨#[]⟩, .int .i64 0] 27)).alloc (.cells #[.slice (some ⟨sb, so, none⟩) n cap, .int .i64 1, .int .i64 0] 158)) := ⟨_, rfl⟩
  have D0 : Hid (Dcd w W0 (some ⟨sb, so, none⟩) n cap 1 0 l a { zeroC with kind := x }) := by rw [hW0]; exact dcd_new x HS.out HY.out HE.out hc hcm hn0
  have KEY : Hid (∀ i, (rcGo 2 s l { zeroC with kind := x } i).1.key.size ≤ 64) := rcGo_key (by show (0 : Nat) ≤ 64; omega)
  obtain ⟨G, hG⟩ : ∃ G, Hid (rcGo 2 s l { zeroC with kind := x } = G) := ⟨_, rfl⟩
  have G0 : Hid (G 0 = ({ zeroC with kind := x }, 1, 0)) := by rw [← hG.out]; rfl
  have GN : Hid (∀ i, (G i).2.2 = 0 → G (i + 1) = rcF 2 (tb s i) (G i).1 l (G i).2.1) := fun i => by rw [← hG.out]; exact rcGo_next
  have GS : Hid (∀ i j, (G i).2.2 ≠ 0 → G (i + j) = G i) := fun i j h => by rw [← hG.out] at h ⊢; exact rcGo_stay h j
  rw [hG.out] at KEY HQ
  clear hG
  go_enter Tryz.func106, Tryz.ntmps106
  go_wp2_with fail
  refine (rknown_any 2 x _).mono ?_
  rintro e w0 ⟨rfl, rfl⟩
  rw [HK.out]
  go_wp2_with fail
  refine (rfields_any x _).mono ?_
  rintro e w0 ⟨rfl, rfl⟩
  rw [hsS.out]
  go_wp2_with fail
  rw [← hW0]
  clear hW0
  go_loopw [11] (fun u wr => ∃ (i : Nat) (c : Cm) (k : Nat) (f : Int), u = .int .i64 (i : Int) ∧ i ≤ s.size ∧ Hid (G i = (c, k, f)) ∧ Hid (Dcd w wr (some ⟨sb, so, none⟩) n cap k f l a c)) (fun u _ => s.size - (intOf u).toNat)
  case atStart => exact ⟨0, _, _, _, rfl, by omega, G0, D0⟩
  case round =>
    clear D0 G0
    obtain ⟨i, c, k, f, rfl, hi, HG, HD⟩ := hrel
    have e2 := HD.out.rdr.fault
    by_cases hlt : i < s.size
    · have d1 : decide ((i : Int) < (s.size : Int)) = true := decide_eq_true (by omega)
      by_cases hf : f = 0
      · subst hf
        have hix := tb_index s i hlt
        have HF : Hid (G (i + 1) = rcF 2 (tb s i) c l k) := by have := GN.out i; rw [HG.out] at this; exact this rfl
        have hck : c.key.size ≤ 64 := by have := KEY.out i; rw [HG.out] at this; exact this
        have hll := LET.out i hlt
        obtain ⟨b, hb⟩ : ∃ b, Hid (tb s i = b) := ⟨_, rfl⟩
        rw [hb.out] at hix HF hll
        have y0 : wr.cell? ⟨w.heap.size + 1, 0, none⟩ = some (.int .i64 c.kind) := HD.out.box.box.1
        have fy0 : wr.frozen? ⟨w.heap.size + 1, 0, none⟩ = false := HD.out.box.thaw 0
        have y1 : wr.cell? ⟨w.heap.size + 1, 1, none⟩ = some (.int .i64 c.client) := HD.out.box.box.2.1
        have fy1 : wr.frozen? ⟨w.heap.size + 1, 1, none⟩ = false := HD.out.box.thaw 1
        have y2 : wr.cell? ⟨w.heap.size + 1, 2, none⟩ = some (.int .i64 c.req) := HD.out.box.box.2.2.1
        have fy2 : wr.frozen? ⟨w.heap.size + 1, 2, none⟩ = false := HD.out.box.thaw 2
        have y3 : wr.cell? ⟨w.heap.size + 1, 3, none⟩ = some (.string c.key) := HD.out.box.box.2.2.2.1
        have fy3 : wr.frozen? ⟨w.heap.size + 1, 3, none⟩ = false := HD.out.box.thaw 3
        have y4 : wr.cell? ⟨w.heap.size + 1, 4, none⟩ = some (.string c.key2) := HD.out.box.box.2.2.2.2.1
        have fy4 : wr.frozen? ⟨w.heap.size + 1, 4, none⟩ = false := HD.out.box.thaw 4
        have y5 : wr.cell? ⟨w.heap.size + 1, 5, none⟩ = some (.string c.val) := HD.out.box.box.2.2.2.2.2.1
        have fy5 : wr.frozen? ⟨w.heap.size + 1, 5, none⟩ = false := HD.out.box.thaw 5
        have y6 : wr.cell? ⟨w.heap.size + 1, 6, none⟩ = some (.string c.old) := HD.out.box.box.2.2.2.2.2.2.1
        have fy6 : wr.frozen? ⟨w.heap.size + 1, 6, none⟩ = false := HD.out.box.thaw 6
        have y7 : wr.cell? ⟨w.heap.size + 1, 7, none⟩ = some (.int .i64 c.n) := HD.out.box.box.2.2.2.2.2.2.2
        have fy7 : wr.frozen? ⟨w.heap.size + 1, 7, none⟩ = false := HD.out.box.thaw 7
        have HCk := hide hck
        have HLl := hide hll
        clear hck hll
        go_wp2
        go_region_with (first | (go_at_call 135; refine (field_any 2 b c (w.heap.size + 1 + 1) n cap k _ l a _ HLl.out HCk.out (HD.out.drewN _).rdr).mono ?_; rintro e w5 ⟨rfl, T5, R5⟩; have D5 := hide ((HD.out.drewN _).call T5 R5); have z0 := D5.out.box.box.1; have fz0 := D5.out.box.thaw 0; have z1 := D5.out.box.box.2.1; have fz1 := D5.out.box.thaw 1; have z2 := D5.out.box.box.2.2.1; have fz2 := D5.out.box.thaw 2; have z3 := D5.out.box.box.2.2.2.1; have fz3 := D5.out.box.thaw 3; have z4 := D5.out.box.box.2.2.2.2.1; have fz4 := D5.out.box.thaw 4; have z5 := D5.out.box.box.2.2.2.2.2.1; have fz5 := D5.out.box.thaw 5; have z6 := D5.out.box.box.2.2.2.2.2.2.1; have fz6 := D5.out.box.thaw 6; have z7 := D5.out.box.box.2.2.2.2.2.2.2; have fz7 := D5.out.box.thaw 7; clear T5 R5))
        all_goals
          go_wp2
          go_roundw
          case rel => exact ⟨i + 1, _, _, _, by go_num, by omega, HF, D5.out.put HS.out HE.out _⟩
          case measure => simp [intOf]; omega
      · have this : G s.size = (c, k, f) := by
          have h := GS.out i (s.size - i) (by rw [HG.out]; exact hf)
          rw [show i + (s.size - i) = s.size by omega, HG.out] at h
          exact h
        have HT := hide this
        clear this
        have df : (f == 0) = false := beq_eq_false_iff_ne.2 hf
        have dn : (f != 0) = true := by rw [bne_iff_ne]; exact hf
        have HA : Hid (rcD 2 l = (zeroC, 0, f)) := by
          have this := HT.out
          rw [HQ.out, this, if_neg hf]; rfl
        have r0 : wr.cell? ⟨w.heap.size, 0, none⟩ = some (.int .i64 0) := HD.out.res.box.1
        have fr0 : wr.frozen? ⟨w.heap.size, 0, none⟩ = false := HD.out.res.thaw 0
        have r1 : wr.cell? ⟨w.heap.size, 1, none⟩ = some (.int .i64 0) := HD.out.res.box.2.1
        have fr1 : wr.frozen? ⟨w.heap.size, 1, none⟩ = false := HD.out.res.thaw 1
        have r2 : wr.cell? ⟨w.heap.size, 2, none⟩ = some (.int .i64 0) := HD.out.res.box.2.2.1
        have fr2 : wr.frozen? ⟨w.heap.size, 2, none⟩ = false := HD.out.res.thaw 2
        have r3 : wr.cell? ⟨w.heap.size, 3, none⟩ = some (.string ⟨#[]⟩) := HD.out.res.box.2.2.2.1
        have fr3 : wr.frozen? ⟨w.heap.size, 3, none⟩ = false := HD.out.res.thaw 3
        have r4 : wr.cell? ⟨w.heap.size, 4, none⟩ = some (.string ⟨#[]⟩) := HD.out.res.box.2.2.2.2.1
        have fr4 : wr.frozen? ⟨w.heap.size, 4, none⟩ = false := HD.out.res.thaw 4
        have r5 : wr.cell? ⟨w.heap.size, 5, none⟩ = some (.string ⟨#[]⟩) := HD.out.res.box.2.2.2.2.2.1
        have fr5 : wr.frozen? ⟨w.heap.size, 5, none⟩ = false := HD.out.res.thaw 5
        have r6 : wr.cell? ⟨w.heap.size, 6, none⟩ = some (.string ⟨#[]⟩) := HD.out.res.box.2.2.2.2.2.2.1
        have fr6 : wr.frozen? ⟨w.heap.size, 6, none⟩ = false := HD.out.res.thaw 6
        have r7 : wr.cell? ⟨w.heap.size, 7, none⟩ = some (.int .i64 0) := HD.out.res.box.2.2.2.2.2.2.2
        have fr7 : wr.frozen? ⟨w.heap.size, 7, none⟩ = false := HD.out.res.thaw 7
        have hwl : w.heap.size + 1 + 1 < wr.heap.size := HD.out.rdr.lt
        have hw0 : w.heap.size < wr.heap.size := HD.out.res.lt
        clear hf
        go_wp2
        go_region
        go_wp2
        rw [HA.out]
        refine bodyPost_ret (v := .tuple #[.agg #[.int .i64 zeroC.kind, .int .i64 zeroC.client, .int .i64 zeroC.req, .string zeroC.key, .string zeroC.key2, .string zeroC.val, .string zeroC.old, .int .i64 zeroC.n], .int .i64 0, .int .i64 f]) (by simp [results, Tryz.results106, go_sem, zeroC, *]) rfl ⟨rfl, ?_⟩
        refine low_new ?_ _
        iterate 8 refine set_low ?_ _ _
        exact HD.out.below
    · have d1 : decide ((i : Int) < (s.size : Int)) = false := decide_eq_false (by omega)
      have HT : Hid (G s.size = (c, k, f)) := by rw [show s.size = i by omega]; exact HG
      have e1 : wr.cell? ⟨w.heap.size + 1 + 1, 1, none⟩ = some (.int .i64 (k : Int)) := HD.out.rdr.ready.cur.2.1
      by_cases hf : f = 0
      · subst hf
        have HA : Hid (rcD 2 l = (c, k, 0)) := by rw [HQ.out, HT.out, if_pos rfl]; rfl
        have r0 : wr.cell? ⟨w.heap.size, 0, none⟩ = some (.int .i64 0) := HD.out.res.box.1
        have fr0 : wr.frozen? ⟨w.heap.size, 0, none⟩ = false := HD.out.res.thaw 0
        have r1 : wr.cell? ⟨w.heap.size, 1, none⟩ = some (.int .i64 0) := HD.out.res.box.2.1
        have fr1 : wr.frozen? ⟨w.heap.size, 1, none⟩ = false := HD.out.res.thaw 1
        have r2 : wr.cell? ⟨w.heap.size, 2, none⟩ = some (.int .i64 0) := HD.out.res.box.2.2.1
        have fr2 : wr.frozen? ⟨w.heap.size, 2, none⟩ = false := HD.out.res.thaw 2
        have r3 : wr.cell? ⟨w.heap.size, 3, none⟩ = some (.string ⟨#[]⟩) := HD.out.res.box.2.2.2.1
        have fr3 : wr.frozen? ⟨w.heap.size, 3, none⟩ = false := HD.out.res.thaw 3
        have r4 : wr.cell? ⟨w.heap.size, 4, none⟩ = some (.string ⟨#[]⟩) := HD.out.res.box.2.2.2.2.1
        have fr4 : wr.frozen? ⟨w.heap.size, 4, none⟩ = false := HD.out.res.thaw 4
        have r5 : wr.cell? ⟨w.heap.size, 5, none⟩ = some (.string ⟨#[]⟩) := HD.out.res.box.2.2.2.2.2.1
        have fr5 : wr.frozen? ⟨w.heap.size, 5, none⟩ = false := HD.out.res.thaw 5
        have r6 : wr.cell? ⟨w.heap.size, 6, none⟩ = some (.string ⟨#[]⟩) := HD.out.res.box.2.2.2.2.2.2.1
        have fr6 : wr.frozen? ⟨w.heap.size, 6, none⟩ = false := HD.out.res.thaw 6
        have r7 : wr.cell? ⟨w.heap.size, 7, none⟩ = some (.int .i64 0) := HD.out.res.box.2.2.2.2.2.2.2
        have fr7 : wr.frozen? ⟨w.heap.size, 7, none⟩ = false := HD.out.res.thaw 7
        have y0 : wr.cell? ⟨w.heap.size + 1, 0, none⟩ = some (.int .i64 c.kind) := HD.out.box.box.1
        have y1 : wr.cell? ⟨w.heap.size + 1, 1, none⟩ = some (.int .i64 c.client) := HD.out.box.box.2.1
        have y2 : wr.cell? ⟨w.heap.size + 1, 2, none⟩ = some (.int .i64 c.req) := HD.out.box.box.2.2.1
        have y3 : wr.cell? ⟨w.heap.size + 1, 3, none⟩ = some (.string c.key) := HD.out.box.box.2.2.2.1
        have y4 : wr.cell? ⟨w.heap.size + 1, 4, none⟩ = some (.string c.key2) := HD.out.box.box.2.2.2.2.1
        have y5 : wr.cell? ⟨w.heap.size + 1, 5, none⟩ = some (.string c.val) := HD.out.box.box.2.2.2.2.2.1
        have y6 : wr.cell? ⟨w.heap.size + 1, 6, none⟩ = some (.string c.old) := HD.out.box.box.2.2.2.2.2.2.1
        have y7 : wr.cell? ⟨w.heap.size + 1, 7, none⟩ = some (.int .i64 c.n) := HD.out.box.box.2.2.2.2.2.2.2
        go_wp2
        go_region
        go_wp2
        rw [HA.out]
        refine bodyPost_ret (v := .tuple #[.agg #[.int .i64 c.kind, .int .i64 c.client, .int .i64 c.req, .string c.key, .string c.key2, .string c.val, .string c.old, .int .i64 c.n], .int .i64 (k : Int), .int .i64 0]) (by simp [results, Tryz.results106, go_sem, *]) rfl ⟨rfl, ?_⟩
        refine low_drew ?_
        iterate 8 refine set_low ?_ _ _
        exact HD.out.below
      · clear e1
        have df : (f == 0) = false := beq_eq_false_iff_ne.2 hf
        have dn : (f != 0) = true := by rw [bne_iff_ne]; exact hf
        have HA : Hid (rcD 2 l = (zeroC, 0, f)) := by
          have this := HT.out
          rw [HQ.out, this, if_neg hf]; rfl
        have r0 : wr.cell? ⟨w.heap.size, 0, none⟩ = some (.int .i64 0) := HD.out.res.box.1
        have fr0 : wr.frozen? ⟨w.heap.size, 0, none⟩ = false := HD.out.res.thaw 0
        have r1 : wr.cell? ⟨w.heap.size, 1, none⟩ = some (.int .i64 0) := HD.out.res.box.2.1
        have fr1 : wr.frozen? ⟨w.heap.size, 1, none⟩ = false := HD.out.res.thaw 1
        have r2 : wr.cell? ⟨w.heap.size, 2, none⟩ = some (.int .i64 0) := HD.out.res.box.2.2.1
        have fr2 : wr.frozen? ⟨w.heap.size, 2, none⟩ = false := HD.out.res.thaw 2
        have r3 : wr.cell? ⟨w.heap.size, 3, none⟩ = some (.string ⟨#[]⟩) := HD.out.res.box.2.2.2.1
        have fr3 : wr.frozen? ⟨w.heap.size, 3, none⟩ = false := HD.out.res.thaw 3
        have r4 : wr.cell? ⟨w.heap.size, 4, none⟩ = some (.string ⟨#[]⟩) := HD.out.res.box.2.2.2.2.1
        have fr4 : wr.frozen? ⟨w.heap.size, 4, none⟩ = false := HD.out.res.thaw 4
        have r5 : wr.cell? ⟨w.heap.size, 5, none⟩ = some (.string ⟨#[]⟩) := HD.out.res.box.2.2.2.2.2.1
        have fr5 : wr.frozen? ⟨w.heap.size, 5, none⟩ = false := HD.out.res.thaw 5
        have r6 : wr.cell? ⟨w.heap.size, 6, none⟩ = some (.string ⟨#[]⟩) := HD.out.res.box.2.2.2.2.2.2.1
        have fr6 : wr.frozen? ⟨w.heap.size, 6, none⟩ = false := HD.out.res.thaw 6
        have r7 : wr.cell? ⟨w.heap.size, 7, none⟩ = some (.int .i64 0) := HD.out.res.box.2.2.2.2.2.2.2
        have fr7 : wr.frozen? ⟨w.heap.size, 7, none⟩ = false := HD.out.res.thaw 7
        have hwl : w.heap.size + 1 + 1 < wr.heap.size := HD.out.rdr.lt
        have hw0 : w.heap.size < wr.heap.size := HD.out.res.lt
        clear hf
        go_wp2
        go_region
        go_wp2
        rw [HA.out]
        refine bodyPost_ret (v := .tuple #[.agg #[.int .i64 zeroC.kind, .int .i64 zeroC.client, .int .i64 zeroC.req, .string zeroC.key, .string zeroC.key2, .string zeroC.val, .string zeroC.old, .int .i64 zeroC.n], .int .i64 0, .int .i64 f]) (by simp [results, Tryz.results106, go_sem, zeroC, *]) rfl ⟨rfl, ?_⟩
        refine low_new ?_ _
        iterate 8 refine set_low ?_ _ _
        exact HD.out.below
set_option maxHeartbeats 1000000 in
set_option maxRecDepth 100000 in
theorem rcDec_ver (v : Int) (sa : Option Addr) (n cap : Nat) (w : World) (h1 : (v != 1) = true) (h2 : (v != 2) = true) :
    Calls Tryz.prog 106 #[.int .i64 v, .slice sa n cap] w fun e w' => e = .returned (.tuple #[.agg #[.int .i64 zeroC.kind, .int .i64 zeroC.client, .int .i64 zeroC.req, .string zeroC.key, .string zeroC.key2, .string zeroC.val, .string zeroC.old, .int .i64 zeroC.n], .int .i64 0, .int .i64 2]) ∧ Below w.heap.size w w' := by
  go_enter Tryz.func106, Tryz.ntmps106
  go_wp2
  refine bodyPost_ret (v := .tuple #[.agg #[.int .i64 zeroC.kind, .int .i64 zeroC.client, .int .i64 zeroC.req, .string zeroC.key, .string zeroC.key2, .string zeroC.val, .string zeroC.old, .int .i64 zeroC.n], .int .i64 0, .int .i64 2]) (by simp [results, Tryz.results106, go_sem, zeroC]) rfl ⟨rfl, ?_⟩
  exact ((Below.refl _ w).alloc (Nat.le_refl _) _).alloc (by simp) _
set_option maxHeartbeats 1000000 in
set_option maxRecDepth 100000 in
theorem rcDec_none (v : Int) (sa : Option Addr) (cap : Nat) (w : World) (hv : v = 1 ∨ v = 2) :
    Calls Tryz.prog 106 #[.int .i64 v, .slice sa 0 cap] w fun e w' => e = .returned (.tuple #[.agg #[.int .i64 zeroC.kind, .int .i64 zeroC.client, .int .i64 zeroC.req, .string zeroC.key, .string zeroC.key2, .string zeroC.val, .string zeroC.old, .int .i64 zeroC.n], .int .i64 0, .int .i64 11]) ∧ Below w.heap.size w w' := by
  rcases hv with rfl | rfl
  all_goals
    go_enter Tryz.func106, Tryz.ntmps106
    go_wp2
    refine bodyPost_ret (v := .tuple #[.agg #[.int .i64 zeroC.kind, .int .i64 zeroC.client, .int .i64 zeroC.req, .string zeroC.key, .string zeroC.key2, .string zeroC.val, .string zeroC.old, .int .i64 zeroC.n], .int .i64 0, .int .i64 11]) (by simp [results, Tryz.results106, go_sem, zeroC]) rfl ⟨rfl, ?_⟩
    exact ((Below.refl _ w).alloc (Nat.le_refl _) _).alloc (by simp) _
set_option maxHeartbeats 1000000 in
set_option maxRecDepth 100000 in
theorem rcDec_kind (v x : Int) (sb so n cap : Nat) (w : World) (hv : v = 1 ∨ v = 2) (hn : 0 < n) (x0 : w.cell? ⟨sb, so, none⟩ = some (.int .u8 x)) (hx : 0 ≤ x ∧ x < 256) (hk : knownR v x = false) :
    Calls Tryz.prog 106 #[.int .i64 v, .slice (some ⟨sb, so, none⟩) n cap] w fun e w' => e = .returned (.tuple #[.agg #[.int .i64 zeroC.kind, .int .i64 zeroC.client, .int .i64 zeroC.req, .string zeroC.key, .string zeroC.key2, .string zeroC.val, .string zeroC.old, .int .i64 zeroC.n], .int .i64 0, .int .i64 41]) ∧ Below w.heap.size w w' := by
  have HK := hide hk
  have hsb : sb < w.heap.size := cell_lt x0
  clear hk
  rcases hv with rfl | rfl
  all_goals
    go_enter Tryz.func106, Tryz.ntmps106
    go_wp2_with fail
    refine (rknown_any _ x _).mono ?_
    rintro e w0 ⟨rfl, rfl⟩
    rw [HK.out]
    go_wp2
    refine bodyPost_ret (v := .tuple #[.agg #[.int .i64 zeroC.kind, .int .i64 zeroC.client, .int .i64 zeroC.req, .string zeroC.key, .string zeroC.key2, .string zeroC.val, .string zeroC.old, .int .i64 zeroC.n], .int .i64 0, .int .i64 41]) (by simp [results, Tryz.results106, go_sem, zeroC]) rfl ⟨rfl, ?_⟩
    exact ((Below.refl _ w).alloc (Nat.le_refl _) _).alloc (by simp) _

/-- The document's own Decode, at every input. -/
theorem rcDec_any (v : Int) (sa : Option Addr) (n cap : Nat) (l : List Int) (a : Nat → Addr) (w : World) (hs : Seg w sa n l) (hy : Byt l) (he : Errs w a) (hc : n ≤ cap) (hcm : cap ≤ 9223372036854775807) :
    Calls Tryz.prog 106 #[.int .i64 v, .slice sa n cap] w fun e w' => e = .returned (.tuple #[.agg #[.int .i64 (rcD v l).1.kind, .int .i64 (rcD v l).1.client, .int .i64 (rcD v l).1.req, .string (rcD v l).1.key, .string (rcD v l).1.key2, .string (rcD v l).1.val, .string (rcD v l).1.old, .int .i64 (rcD v l).1.n], .int .i64 ((rcD v l).2.1 : Nat), .int .i64 (rcD v l).2.2]) ∧ Below w.heap.size w w' := by
  by_cases hv : v = 1 ∨ v = 2
  · have hver : isVer v = true := by rcases hv with rfl | rfl <;> rfl
    cases hl : l with
    | nil =>
      have hn : n = 0 := by rw [← hs.1, hl]; rfl
      subst hn
      have e : rcD v [] = (zeroC, 0, 11) := by unfold rcD; rw [if_pos hver]
      rw [e]
      exact rcDec_none v sa cap w hv
    | cons x r =>
      have hn0 : 0 < n := by rw [← hs.1, hl]; simp
      obtain ⟨sb, so, rfl, hcell⟩ := hs.2.2 hn0
      have x0 : w.cell? ⟨sb, so, none⟩ = some (.int .u8 x) := by
        have := hcell 0 hn0
        rw [hl] at this; simpa using this
      cases hk : knownR v x with
      | false =>
        have e : rcD v (x :: r) = (zeroC, 0, 41) := by
          unfold rcD; rw [if_pos hver]
          show (if knownR v x then _ else _) = _
          rw [if_neg (by rw [hk]; decide)]
        rw [e]
        exact rcDec_kind v x sb so n cap w hv hn0 x0 (hy x (by rw [hl]; simp)) hk
      | true =>
        rw [← hl]
        rcases hv with rfl | rfl
        · exact rcDec_good1 x r sb so n cap l a w hs hy he hc hcm hl hk
        · exact rcDec_good2 x r sb so n cap l a w hs hy he hc hcm hl hk
  · have hver : isVer v = false := by
      unfold isVer
      rw [Bool.or_eq_false_iff]
      exact ⟨beq_eq_false_iff_ne.2 (fun e => hv (.inl e)), beq_eq_false_iff_ne.2 (fun e => hv (.inr e))⟩
    have e : rcD v l = (zeroC, 0, 2) := by unfold rcD; rw [if_neg (by rw [hver]; decide)]
    rw [e]
    exact rcDec_ver v sa n cap w (by rw [bne_iff_ne]; exact fun e => hv (.inl e)) (by rw [bne_iff_ne]; exact fun e => hv (.inr e))
end Go.Proofs.YtlhididcanedhaaGreatDoor
