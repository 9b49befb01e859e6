/- Texts of the proof, joined. -/
import Derived.Test.YtlhididcanedhaaGreatDoorJ31
import Derived.Test.YtlhididcanedhaaGreatDoorJ13
import Derived.Deep.Cut
/- The document's own scan: a field of a command. -/
namespace Go.Proofs.YtlhididcanedhaaGreatDoor
open Go.RowKit Go.Wire1

def rcI (l : List Int) (k : Nat) : Int × Nat × Int :=
  match dec (l.drop k) with | .ok (x, m) => (unzig x, k + m, 0) | .error i => (0, k, 11 + (i : Int))
/-- What the document's scan makes of a command by one letter. -/
def rcF (v : Int) (x : Int) (c : Cm) (l : List Int) (k : Nat) : Cm × Nat × Int :=
  if x = 99 then ({ c with client := ((rcU 65535 42 l k 0).1 : Nat) }, (rcU 65535 42 l k 0).2)
  else if x = 114 then ({ c with req := ((rcU 1073741824 43 l k 0).1 : Nat) }, (rcU 1073741824 43 l k 0).2)
  else if x = 107 then ({ c with key := (rcT 1 64 44 l k 0).1 }, (rcT 1 64 44 l k 0).2)
  else if x = 106 then ({ c with key2 := (rcK c.kind c.key l k 0).1 }, (rcK c.kind c.key l k 0).2)
  else if x = 111 then ({ c with old := (rcT 0 (mostV v) 47 l k 0).1 }, (rcT 0 (mostV v) 47 l k 0).2)
  else if x = 118 then ({ c with val := (rcT 0 (mostV v) 46 l k 0).1 }, (rcT 0 (mostV v) 46 l k 0).2)
  else ({ c with n := (rcI l k).1 }, (rcI l k).2)

/-- In the midst of a field: w the world at the call, W the world now. -/
structure Fld (w W : World) (b : Nat) (sa : Option Addr) (n cap k : Nat) (f : Int) (l : List Int) (a : Nat → Addr) (c : Cm) : Prop where
  touch : Touch b w W
  rdr : Rdr W b sa n cap k f l a
  box : Bx W w.heap.size c
  res : Bx W (w.heap.size + 1) zeroC
section
variable {w W W' : World} {b : Nat} {sa : Option Addr} {n cap k k' k0 : Nat} {f f' f0 : Int} {l : List Int} {a : Nat → Addr} {c c' : Cm}
theorem Fld.call (h : Fld w W b sa n cap k f l a c) (h0 : Rdr w b sa n cap k0 f0 l a) (T : Touch b W W') (R : Rdr W' b sa n cap k' f' l a) : Fld w W' b sa n cap k' f' l a c := by
  have hb := h0.lt
  exact ⟨h.touch.trans T, R, h.box.beside T (by omega), h.res.beside T (by omega)⟩
theorem Fld.put (h : Fld w W b sa n cap k f l a c) (h0 : Rdr w b sa n cap k0 f0 l a) (o : Nat) (u : Value) (hb : Bx (W.setCell ⟨w.heap.size, o, none⟩ u) w.heap.size c') : Fld w (W.setCell ⟨w.heap.size, o, none⟩ u) b sa n cap k f l a c' := by
  have hb0 := h0.lt
  have h5 := h0.ready.five
  have T : Touch w.heap.size W (W.setCell ⟨w.heap.size, o, none⟩ u) := (Touch.refl _ W).setB _
  exact ⟨h.touch.setNew u (Nat.le_refl _), h.rdr.beside T (by omega) (fun x hx hn => by have := h0.ready.seg.lt hn hx; omega) (by omega) (fun i hi => by have := h0.ready.errs.lt i hi; omega), hb, h.res.beside T (by omega)⟩
theorem fld_set (h0 : Rdr w b sa n cap k0 f0 l a) (h : Touch b w W ∧ Rdr W b sa n cap k f l a) (o : Nat) (u : Value) :
    Touch b w (W.setCell ⟨w.heap.size + 1, o, none⟩ u) ∧ Rdr (W.setCell ⟨w.heap.size + 1, o, none⟩ u) b sa n cap k f l a := by
  have hb0 := h0.lt
  have h5 := h0.ready.five
  exact ⟨h.1.setNew u (by omega), h.2.beside ((Touch.refl _ W).setB _) (by omega) (fun x hx hn => by have := h0.ready.seg.lt hn hx; omega) (by omega) (fun i hi => by have := h0.ready.errs.lt i hi; omega)⟩
end
theorem fld_new {w : World} {b : Nat} {sa : Option Addr} {n cap k : Nat} {f : Int} {l : List Int} {a : Nat → Addr} (h : Rdr w b sa n cap k f l a) (c : Cm) :
    Fld w ((w.alloc (.cells #[.int .i64 c.kind, .int .i64 c.client, .int .i64 c.req, .string c.key, .string c.key2, .string c.val, .string c.old, .int .i64 c.n] 27)).alloc (.cells #[.int .i64 0, .int .i64 0, .int .i64 0, .string ⟨#[]⟩, .string ⟨#[]⟩, .string ⟨#[]⟩, .string ⟨#[]⟩, .int .i64 0] 27)) b sa n cap k f l a c := by
  have B : Below w.heap.size w ((w.alloc (.cells #[.int .i64 c.kind, .int .i64 c.client, .int .i64 c.req, .string c.key, .string c.key2, .string c.val, .string c.old, .int .i64 c.n] 27)).alloc (.cells #[.int .i64 0, .int .i64 0, .int .i64 0, .string ⟨#[]⟩, .string ⟨#[]⟩, .string ⟨#[]⟩, .string ⟨#[]⟩, .int .i64 0] 27)) := ((Below.refl _ w).alloc (Nat.le_refl _) _).alloc (by simp) _
  refine ⟨Touch.ofBelow B, h.below B (Nat.le_refl _), ?_, ?_⟩
  · exact (bx_new w 27 c.kind c.client c.req c.key c.key2 c.val c.old c.n).of_block (Below.block ((Below.refl _ _).alloc (Nat.le_refl _) _) _ (by simp))
  · have := bx_new (w.alloc (.cells #[.int .i64 c.kind, .int .i64 c.client, .int .i64 c.req, .string c.key, .string c.key2, .string c.val, .string c.old, .int .i64 c.n] 27)) 27 0 0 0 ⟨#[]⟩ ⟨#[]⟩ ⟨#[]⟩ ⟨#[]⟩ 0
    rw [show (w.alloc (.cells #[.int .i64 c.kind, .int .i64 c.client, .int .i64 c.req, .string c.key, .string c.key2, .string c.val, .string c.old, .int .i64 c.n] 27)).heap.size = w.heap.size + 1 by simp] at this
    exact this
set_option maxHeartbeats 2000000 in
set_option maxRecDepth 100000 in
theorem field_c (v : Int) (c : Cm) (b n cap k : Nat) (sa : Option Addr) (l : List Int) (a : Nat → Addr) (w : World) (h : Rdr w b sa n cap k 0 l a) (u : Nat) (k' : Nat) (f' : Int) (hu : Hid ((rcU 65535 42 l k 0).1 = u)) (hk' : Hid ((rcU 65535 42 l k 0).2.1 = k')) (hf' : Hid ((rcU 65535 42 l k 0).2.2 = f')) :
    Calls Tryz.prog 135 #[.pointer (some ⟨b, 0, none⟩), .int .i64 v, .int .u8 99, .agg #[.int .i64 c.kind, .int .i64 c.client, .int .i64 c.req, .string c.key, .string c.key2, .string c.val, .string c.old, .int .i64 c.n]] w fun e w' => e = .returned (.agg #[.int .i64 c.kind, .int .i64 u, .int .i64 c.req, .string c.key, .string c.key2, .string c.val, .string c.old, .int .i64 c.n]) ∧ Touch b w w' ∧ Rdr w' b sa n cap k' f' l a := by
  obtain ⟨V, hV⟩ : ∃ V, V = (w.alloc (.cells #[.int .i64 c.kind, .int .i64 c.client, .int .i64 c.req, .string c.key, .string c.key2, .string c.val, .string c.old, .int .i64 c.n] 27)).alloc (.cells #[.int .i64 0, .int .i64 0, .int .i64 0, .string ⟨#[]⟩, .string ⟨#[]⟩, .string ⟨#[]⟩, .string ⟨#[]⟩, .int .i64 0] 27) := ⟨_, rfl⟩
  have F0 : Hid (Fld w V b sa n cap k 0 l a c) := by rw [hV]; exact fld_new h c
  have HS := hide h
  clear h
  go_enter Tryz.func135, Tryz.ntmps135
  go_wp2_with fail
  rw [← hV]
  clear hV
  refine (rcUint_any 65535 42 b n cap k 0 sa l a _ (by decide) (by decide) F0.out.rdr).mono ?_
  rintro e w1 ⟨rfl, T1, R1⟩
  rw [hu.out]
  rw [hk'.out, hf'.out] at R1
  have F1 := hide (F0.out.call HS.out T1 R1)
  clear T1 R1 F0
  have x0 : w1.cell? ⟨w.heap.size, 0, none⟩ = some (.int .i64 c.kind) := F1.out.box.box.1
  have x1 : w1.cell? ⟨w.heap.size, 1, none⟩ = some (.int .i64 c.client) := F1.out.box.box.2.1
  have x2 : w1.cell? ⟨w.heap.size, 2, none⟩ = some (.int .i64 c.req) := F1.out.box.box.2.2.1
  have x3 : w1.cell? ⟨w.heap.size, 3, none⟩ = some (.string c.key) := F1.out.box.box.2.2.2.1
  have x4 : w1.cell? ⟨w.heap.size, 4, none⟩ = some (.string c.key2) := F1.out.box.box.2.2.2.2.1
  have x5 : w1.cell? ⟨w.heap.size, 5, none⟩ = some (.string c.val) := F1.out.box.box.2.2.2.2.2.1
  have x6 : w1.cell? ⟨w.heap.size, 6, none⟩ = some (.string c.old) := F1.out.box.box.2.2.2.2.2.2.1
  have x7 : w1.cell? ⟨w.heap.size, 7, none⟩ = some (.int .i64 c.n) := F1.out.box.box.2.2.2.2.2.2.2
  have r0 : w1.cell? ⟨w.heap.size + 1, 0, none⟩ = some (.int .i64 0) := F1.out.res.box.1
  have fr0 : w1.frozen? ⟨w.heap.size + 1, 0, none⟩ = false := F1.out.res.thaw 0
  have r1 : w1.cell? ⟨w.heap.size + 1, 1, none⟩ = some (.int .i64 0) := F1.out.res.box.2.1
  have fr1 : w1.frozen? ⟨w.heap.size + 1, 1, none⟩ = false := F1.out.res.thaw 1
  have r2 : w1.cell? ⟨w.heap.size + 1, 2, none⟩ = some (.int .i64 0) := F1.out.res.box.2.2.1
  have fr2 : w1.frozen? ⟨w.heap.size + 1, 2, none⟩ = false := F1.out.res.thaw 2
  have r3 : w1.cell? ⟨w.heap.size + 1, 3, none⟩ = some (.string ⟨#[]⟩) := F1.out.res.box.2.2.2.1
  have fr3 : w1.frozen? ⟨w.heap.size + 1, 3, none⟩ = false := F1.out.res.thaw 3
  have r4 : w1.cell? ⟨w.heap.size + 1, 4, none⟩ = some (.string ⟨#[]⟩) := F1.out.res.box.2.2.2.2.1
  have fr4 : w1.frozen? ⟨w.heap.size + 1, 4, none⟩ = false := F1.out.res.thaw 4
  have r5 : w1.cell? ⟨w.heap.size + 1, 5, none⟩ = some (.string ⟨#[]⟩) := F1.out.res.box.2.2.2.2.2.1
  have fr5 : w1.frozen? ⟨w.heap.size + 1, 5, none⟩ = false := F1.out.res.thaw 5
  have r6 : w1.cell? ⟨w.heap.size + 1, 6, none⟩ = some (.string ⟨#[]⟩) := F1.out.res.box.2.2.2.2.2.2.1
  have fr6 : w1.frozen? ⟨w.heap.size + 1, 6, none⟩ = false := F1.out.res.thaw 6
  have r7 : w1.cell? ⟨w.heap.size + 1, 7, none⟩ = some (.int .i64 0) := F1.out.res.box.2.2.2.2.2.2.2
  have fr7 : w1.frozen? ⟨w.heap.size + 1, 7, none⟩ = false := F1.out.res.thaw 7
  have fx : w1.frozen? ⟨w.heap.size, 1, none⟩ = false := F1.out.box.thaw 1
  have hlt : w.heap.size + 1 < w1.heap.size := F1.out.res.lt
  go_wp2
  refine bodyPost_ret (v := .agg #[.int .i64 c.kind, .int .i64 u, .int .i64 c.req, .string c.key, .string c.key2, .string c.val, .string c.old, .int .i64 c.n]) (by simp [results, Tryz.results135, go_sem, *]) rfl ⟨rfl, ?_⟩
  iterate 8 refine fld_set HS.out ?_ _ _
  have F2 := F1.out.put HS.out 1 (.int .i64 u) (F1.out.box.client _)
  exact ⟨F2.touch, F2.rdr⟩
set_option maxHeartbeats 2000000 in
set_option maxRecDepth 100000 in
theorem field_r (v : Int) (c : Cm) (b n cap k : Nat) (sa : Option Addr) (l : List Int) (a : Nat → Addr) (w : World) (h : Rdr w b sa n cap k 0 l a) (u : Nat) (k' : Nat) (f' : Int) (hu : Hid ((rcU 1073741824 43 l k 0).1 = u)) (hk' : Hid ((rcU 1073741824 43 l k 0).2.1 = k')) (hf' : Hid ((rcU 1073741824 43 l k 0).2.2 = f')) :
    Calls Tryz.prog 135 #[.pointer (some ⟨b, 0, none⟩), .int .i64 v, .int .u8 114, .agg #[.int .i64 c.kind, .int .i64 c.client, .int .i64 c.req, .string c.key, .string c.key2, .string c.val, .string c.old, .int .i64 c.n]] w fun e w' => e = .returned (.agg #[.int .i64 c.kind, .int .i64 c.client, .int .i64 u, .string c.key, .string c.key2, .string c.val, .string c.old, .int .i64 c.n]) ∧ Touch b w w' ∧ Rdr w' b sa n cap k' f' l a := by
  obtain ⟨V, hV⟩ : ∃ V, V = (w.alloc (.cells #[.int .i64 c.kind, .int .i64 c.client, .int .i64 c.req, .string c.key, .string c.key2, .string c.val, .string c.old, .int .i64 c.n] 27)).alloc (.cells #[.int .i64 0, .int .i64 0, .int .i64 0, .string ⟨#[]⟩, .string ⟨#[]⟩, .string ⟨#[]⟩, .string ⟨#[]⟩, .int .i64 0] 27) := ⟨_, rfl⟩
  have F0 : Hid (Fld w V b sa n cap k 0 l a c) := by rw [hV]; exact fld_new h c
  have HS := hide h
  clear h
  go_enter Tryz.func135, Tryz.ntmps135
  go_wp2_with fail
  rw [← hV]
  clear hV
  refine (rcUint_any 1073741824 43 b n cap k 0 sa l a _ (by decide) (by decide) F0.out.rdr).mono ?_
  rintro e w1 ⟨rfl, T1, R1⟩
  rw [hu.out]
  rw [hk'.out, hf'.out] at R1
  have F1 := hide (F0.out.call HS.out T1 R1)
  clear T1 R1 F0
  have x0 : w1.cell? ⟨w.heap.size, 0, none⟩ = some (.int .i64 c.kind) := F1.out.box.box.1
  have x1 : w1.cell? ⟨w.heap.size, 1, none⟩ = some (.int .i64 c.client) := F1.out.box.box.2.1
  have x2 : w1.cell? ⟨w.heap.size, 2, none⟩ = some (.int .i64 c.req) := F1.out.box.box.2.2.1
  have x3 : w1.cell? ⟨w.heap.size, 3, none⟩ = some (.string c.key) := F1.out.box.box.2.2.2.1
  have x4 : w1.cell? ⟨w.heap.size, 4, none⟩ = some (.string c.key2) := F1.out.box.box.2.2.2.2.1
  have x5 : w1.cell? ⟨w.heap.size, 5, none⟩ = some (.string c.val) := F1.out.box.box.2.2.2.2.2.1
  have x6 : w1.cell? ⟨w.heap.size, 6, none⟩ = some (.string c.old) := F1.out.box.box.2.2.2.2.2.2.1
  have x7 : w1.cell? ⟨w.heap.size, 7, none⟩ = some (.int .i64 c.n) := F1.out.box.box.2.2.2.2.2.2.2
  have r0 : w1.cell? ⟨w.heap.size + 1, 0, none⟩ = some (.int .i64 0) := F1.out.res.box.1
  have fr0 : w1.frozen? ⟨w.heap.size + 1, 0, none⟩ = false := F1.out.res.thaw 0
  have r1 : w1.cell? ⟨w.heap.size + 1, 1, none⟩ = some (.int .i64 0) := F1.out.res.box.2.1
  have fr1 : w1.frozen? ⟨w.heap.size + 1, 1, none⟩ = false := F1.out.res.thaw 1
  have r2 : w1.cell? ⟨w.heap.size + 1, 2, none⟩ = some (.int .i64 0) := F1.out.res.box.2.2.1
  have fr2 : w1.frozen? ⟨w.heap.size + 1, 2, none⟩ = false := F1.out.res.thaw 2
  have r3 : w1.cell? ⟨w.heap.size + 1, 3, none⟩ = some (.string ⟨#[]⟩) := F1.out.res.box.2.2.2.1
  have fr3 : w1.frozen? ⟨w.heap.size + 1, 3, none⟩ = false := F1.out.res.thaw 3
  have r4 : w1.cell? ⟨w.heap.size + 1, 4, none⟩ = some (.string ⟨#[]⟩) := F1.out.res.box.2.2.2.2.1
  have fr4 : w1.frozen? ⟨w.heap.size + 1, 4, none⟩ = false := F1.out.res.thaw 4
  have r5 : w1.cell? ⟨w.heap.size + 1, 5, none⟩ = some (.string ⟨#[]⟩) := F1.out.res.box.2.2.2.2.2.1
  have fr5 : w1.frozen? ⟨w.heap.size + 1, 5, none⟩ = false := F1.out.res.thaw 5
  have r6 : w1.cell? ⟨w.heap.size + 1, 6, none⟩ = some (.string ⟨#[]⟩) := F1.out.res.box.2.2.2.2.2.2.1
  have fr6 : w1.frozen? ⟨w.heap.size + 1, 6, none⟩ = false := F1.out.res.thaw 6
  have r7 : w1.cell? ⟨w.heap.size + 1, 7, none⟩ = some (.int .i64 0) := F1.out.res.box.2.2.2.2.2.2.2
  have fr7 : w1.frozen? ⟨w.heap.size + 1, 7, none⟩ = false := F1.out.res.thaw 7
  have fx : w1.frozen? ⟨w.heap.size, 2, none⟩ = false := F1.out.box.thaw 2
  have hlt : w.heap.size + 1 < w1.heap.size := F1.out.res.lt
  go_wp2
  refine bodyPost_ret (v := .agg #[.int .i64 c.kind, .int .i64 c.client, .int .i64 u, .string c.key, .string c.key2, .string c.val, .string c.old, .int .i64 c.n]) (by simp [results, Tryz.results135, go_sem, *]) rfl ⟨rfl, ?_⟩
  iterate 8 refine fld_set HS.out ?_ _ _
  have F2 := F1.out.put HS.out 2 (.int .i64 u) (F1.out.box.req _)
  exact ⟨F2.touch, F2.rdr⟩
set_option maxHeartbeats 2000000 in
set_option maxRecDepth 100000 in
theorem field_k (v : Int) (c : Cm) (b n cap k : Nat) (sa : Option Addr) (l : List Int) (a : Nat → Addr) (w : World) (h : Rdr w b sa n cap k 0 l a) (u : ByteArray) (k' : Nat) (f' : Int) (hu : Hid ((rcT 1 64 44 l k 0).1 = u)) (hk' : Hid ((rcT 1 64 44 l k 0).2.1 = k')) (hf' : Hid ((rcT 1 64 44 l k 0).2.2 = f')) :
    Calls Tryz.prog 135 #[.pointer (some ⟨b, 0, none⟩), .int .i64 v, .int .u8 107, .agg #[.int .i64 c.kind, .int .i64 c.client, .int .i64 c.req, .string c.key, .string c.key2, .string c.val, .string c.old, .int .i64 c.n]] w fun e w' => e = .returned (.agg #[.int .i64 c.kind, .int .i64 c.client, .int .i64 c.req, .string u, .string c.key2, .string c.val, .string c.old, .int .i64 c.n]) ∧ Touch b w w' ∧ Rdr w' b sa n cap k' f' l a := by
  obtain ⟨V, hV⟩ : ∃ V, V = (w.alloc (.cells #[.int .i64 c.kind, .int .i64 c.client, .int .i64 c.req, .string c.key, .string c.key2, .string c.val, .string c.old, .int .i64 c.n] 27)).alloc (.cells #[.int .i64 0, .int .i64 0, .int .i64 0, .string ⟨#[]⟩, .string ⟨#[]⟩, .string ⟨#[]⟩, .string ⟨#[]⟩, .int .i64 0] 27) := ⟨_, rfl⟩
  have F0 : Hid (Fld w V b sa n cap k 0 l a c) := by rw [hV]; exact fld_new h c
  have HS := hide h
  clear h
  go_enter Tryz.func135, Tryz.ntmps135
  go_wp2_with fail
  rw [← hV]
  clear hV
  refine (rcText_any 1 64 44 b n cap k 0 sa l a _ (by decide) (by decide) (by decide) F0.out.rdr).mono ?_
  rintro e w1 ⟨rfl, T1, R1⟩
  rw [hu.out]
  rw [hk'.out, hf'.out] at R1
  have F1 := hide (F0.out.call HS.out T1 R1)
  clear T1 R1 F0
  have x0 : w1.cell? ⟨w.heap.size, 0, none⟩ = some (.int .i64 c.kind) := F1.out.box.box.1
  have x1 : w1.cell? ⟨w.heap.size, 1, none⟩ = some (.int .i64 c.client) := F1.out.box.box.2.1
  have x2 : w1.cell? ⟨w.heap.size, 2, none⟩ = some (.int .i64 c.req) := F1.out.box.box.2.2.1
  have x3 : w1.cell? ⟨w.heap.size, 3, none⟩ = some (.string c.key) := F1.out.box.box.2.2.2.1
  have x4 : w1.cell? ⟨w.heap.size, 4, none⟩ = some (.string c.key2) := F1.out.box.box.2.2.2.2.1
  have x5 : w1.cell? ⟨w.heap.size, 5, none⟩ = some (.string c.val) := F1.out.box.box.2.2.2.2.2.1
  have x6 : w1.cell? ⟨w.heap.size, 6, none⟩ = some (.string c.old) := F1.out.box.box.2.2.2.2.2.2.1
  have x7 : w1.cell? ⟨w.heap.size, 7, none⟩ = some (.int .i64 c.n) := F1.out.box.box.2.2.2.2.2.2.2
  have r0 : w1.cell? ⟨w.heap.size + 1, 0, none⟩ = some (.int .i64 0) := F1.out.res.box.1
  have fr0 : w1.frozen? ⟨w.heap.size + 1, 0, none⟩ = false := F1.out.res.thaw 0
  have r1 : w1.cell? ⟨w.heap.size + 1, 1, none⟩ = some (.int .i64 0) := F1.out.res.box.2.1
  have fr1 : w1.frozen? ⟨w.heap.size + 1, 1, none⟩ = false := F1.out.res.thaw 1
  have r2 : w1.cell? ⟨w.heap.size + 1, 2, none⟩ = some (.int .i64 0) := F1.out.res.box.2.2.1
  have fr2 : w1.frozen? ⟨w.heap.size + 1, 2, none⟩ = false := F1.out.res.thaw 2
  have r3 : w1.cell? ⟨w.heap.size + 1, 3, none⟩ = some (.string ⟨#[]⟩) := F1.out.res.box.2.2.2.1
  have fr3 : w1.frozen? ⟨w.heap.size + 1, 3, none⟩ = false := F1.out.res.thaw 3
  have r4 : w1.cell? ⟨w.heap.size + 1, 4, none⟩ = some (.string ⟨#[]⟩) := F1.out.res.box.2.2.2.2.1
  have fr4 : w1.frozen? ⟨w.heap.size + 1, 4, none⟩ = false := F1.out.res.thaw 4
  have r5 : w1.cell? ⟨w.heap.size + 1, 5, none⟩ = some (.string ⟨#[]⟩) := F1.out.res.box.2.2.2.2.2.1
  have fr5 : w1.frozen? ⟨w.heap.size + 1, 5, none⟩ = false := F1.out.res.thaw 5
  have r6 : w1.cell? ⟨w.heap.size + 1, 6, none⟩ = some (.string ⟨#[]⟩) := F1.out.res.box.2.2.2.2.2.2.1
  have fr6 : w1.frozen? ⟨w.heap.size + 1, 6, none⟩ = false := F1.out.res.thaw 6
  have r7 : w1.cell? ⟨w.heap.size + 1, 7, none⟩ = some (.int .i64 0) := F1.out.res.box.2.2.2.2.2.2.2
  have fr7 : w1.frozen? ⟨w.heap.size + 1, 7, none⟩ = false := F1.out.res.thaw 7
  have fx : w1.frozen? ⟨w.heap.size, 3, none⟩ = false := F1.out.box.thaw 3
  have hlt : w.heap.size + 1 < w1.heap.size := F1.out.res.lt
  go_wp2
  refine bodyPost_ret (v := .agg #[.int .i64 c.kind, .int .i64 c.client, .int .i64 c.req, .string u, .string c.key2, .string c.val, .string c.old, .int .i64 c.n]) (by simp [results, Tryz.results135, go_sem, *]) rfl ⟨rfl, ?_⟩
  iterate 8 refine fld_set HS.out ?_ _ _
  have F2 := F1.out.put HS.out 3 (.string u) (F1.out.box.key _)
  exact ⟨F2.touch, F2.rdr⟩
set_option maxHeartbeats 2000000 in
set_option maxRecDepth 100000 in
theorem field_j (v : Int) (c : Cm) (b n cap k : Nat) (sa : Option Addr) (l : List Int) (a : Nat → Addr) (w : World) (hk : c.key.size ≤ 64) (h : Rdr w b sa n cap k 0 l a) (u : ByteArray) (k' : Nat) (f' : Int) (hu : Hid ((rcK c.kind c.key l k 0).1 = u)) (hk' : Hid ((rcK c.kind c.key l k 0).2.1 = k')) (hf' : Hid ((rcK c.kind c.key l k 0).2.2 = f')) :
    Calls Tryz.prog 135 #[.pointer (some ⟨b, 0, none⟩), .int .i64 v, .int .u8 106, .agg #[.int .i64 c.kind, .int .i64 c.client, .int .i64 c.req, .string c.key, .string c.key2, .string c.val, .string c.old, .int .i64 c.n]] w fun e w' => e = .returned (.agg #[.int .i64 c.kind, .int .i64 c.client, .int .i64 c.req, .string c.key, .string u, .string c.val, .string c.old, .int .i64 c.n]) ∧ Touch b w w' ∧ Rdr w' b sa n cap k' f' l a := by
  obtain ⟨V, hV⟩ : ∃ V, V = (w.alloc (.cells #[.int .i64 c.kind, .int .i64 c.client, .int .i64 c.req, .string c.key, .string c.key2, .string c.val, .string c.old, .int .i64 c.n] 27)).alloc (.cells #[.int .i64 0, .int .i64 0, .int .i64 0, .string ⟨#[]⟩, .string ⟨#[]⟩, .string ⟨#[]⟩, .string ⟨#[]⟩, .int .i64 0] 27) := ⟨_, rfl⟩
  have F0 : Hid (Fld w V b sa n cap k 0 l a c) := by rw [hV]; exact fld_new h c
  have HS := hide h
  clear h
  have y0 : V.cell? ⟨w.heap.size, 0, none⟩ = some (.int .i64 c.kind) := F0.out.box.box.1
  have y3 : V.cell? ⟨w.heap.size, 3, none⟩ = some (.string c.key) := F0.out.box.box.2.2.2.1
  rw [hV] at y0 y3
  go_enter Tryz.func135, Tryz.ntmps135
  go_wp2_with fail
  rw [← hV]
  clear hV
  clear y0 y3
  refine (rcKey2_any c.kind c.key b n cap k 0 sa l a _ hk F0.out.rdr).mono ?_
  rintro e w1 ⟨rfl, T1, R1⟩
  rw [hu.out]
  rw [hk'.out, hf'.out] at R1
  have F1 := hide (F0.out.call HS.out T1 R1)
  clear T1 R1 F0
  have x0 : w1.cell? ⟨w.heap.size, 0, none⟩ = some (.int .i64 c.kind) := F1.out.box.box.1
  have x1 : w1.cell? ⟨w.heap.size, 1, none⟩ = some (.int .i64 c.client) := F1.out.box.box.2.1
  have x2 : w1.cell? ⟨w.heap.size, 2, none⟩ = some (.int .i64 c.req) := F1.out.box.box.2.2.1
  have x3 : w1.cell? ⟨w.heap.size, 3, none⟩ = some (.string c.key) := F1.out.box.box.2.2.2.1
  have x4 : w1.cell? ⟨w.heap.size, 4, none⟩ = some (.string c.key2) := F1.out.box.box.2.2.2.2.1
  have x5 : w1.cell? ⟨w.heap.size, 5, none⟩ = some (.string c.val) := F1.out.box.box.2.2.2.2.2.1
  have x6 : w1.cell? ⟨w.heap.size, 6, none⟩ = some (.string c.old) := F1.out.box.box.2.2.2.2.2.2.1
  have x7 : w1.cell? ⟨w.heap.size, 7, none⟩ = some (.int .i64 c.n) := F1.out.box.box.2.2.2.2.2.2.2
  have r0 : w1.cell? ⟨w.heap.size + 1, 0, none⟩ = some (.int .i64 0) := F1.out.res.box.1
  have fr0 : w1.frozen? ⟨w.heap.size + 1, 0, none⟩ = false := F1.out.res.thaw 0
  have r1 : w1.cell? ⟨w.heap.size + 1, 1, none⟩ = some (.int .i64 0) := F1.out.res.box.2.1
  have fr1 : w1.frozen? ⟨w.heap.size + 1, 1, none⟩ = false := F1.out.res.thaw 1
  have r2 : w1.cell? ⟨w.heap.size + 1, 2, none⟩ = some (.int .i64 0) := F1.out.res.box.2.2.1
  have fr2 : w1.frozen? ⟨w.heap.size + 1, 2, none⟩ = false := F1.out.res.thaw 2
  have r3 : w1.cell? ⟨w.heap.size + 1, 3, none⟩ = some (.string ⟨#[]⟩) := F1.out.res.box.2.2.2.1
  have fr3 : w1.frozen? ⟨w.heap.size + 1, 3, none⟩ = false := F1.out.res.thaw 3
  have r4 : w1.cell? ⟨w.heap.size + 1, 4, none⟩ = some (.string ⟨#[]⟩) := F1.out.res.box.2.2.2.2.1
  have fr4 : w1.frozen? ⟨w.heap.size + 1, 4, none⟩ = false := F1.out.res.thaw 4
  have r5 : w1.cell? ⟨w.heap.size + 1, 5, none⟩ = some (.string ⟨#[]⟩) := F1.out.res.box.2.2.2.2.2.1
  have fr5 : w1.frozen? ⟨w.heap.size + 1, 5, none⟩ = false := F1.out.res.thaw 5
  have r6 : w1.cell? ⟨w.heap.size + 1, 6, none⟩ = some (.string ⟨#[]⟩) := F1.out.res.box.2.2.2.2.2.2.1
  have fr6 : w1.frozen? ⟨w.heap.size + 1, 6, none⟩ = false := F1.out.res.thaw 6
  have r7 : w1.cell? ⟨w.heap.size + 1, 7, none⟩ = some (.int .i64 0) := F1.out.res.box.2.2.2.2.2.2.2
  have fr7 : w1.frozen? ⟨w.heap.size + 1, 7, none⟩ = false := F1.out.res.thaw 7
  have fx : w1.frozen? ⟨w.heap.size, 4, none⟩ = false := F1.out.box.thaw 4
  have hlt : w.heap.size + 1 < w1.heap.size := F1.out.res.lt
  go_wp2
  refine bodyPost_ret (v := .agg #[.int .i64 c.kind, .int .i64 c.client, .int .i64 c.req, .string c.key, .string u, .string c.val, .string c.old, .int .i64 c.n]) (by simp [results, Tryz.results135, go_sem, *]) rfl ⟨rfl, ?_⟩
  iterate 8 refine fld_set HS.out ?_ _ _
  have F2 := F1.out.put HS.out 4 (.string u) (F1.out.box.key2 _)
  exact ⟨F2.touch, F2.rdr⟩
set_option maxHeartbeats 2000000 in
set_option maxRecDepth 100000 in
theorem field_o (v : Int) (c : Cm) (b n cap k : Nat) (sa : Option Addr) (l : List Int) (a : Nat → Addr) (w : World) (h : Rdr w b sa n cap k 0 l a) (u : ByteArray) (k' : Nat) (f' : Int) (hu : Hid ((rcT 0 (mostV v) 47 l k 0).1 = u)) (hk' : Hid ((rcT 0 (mostV v) 47 l k 0).2.1 = k')) (hf' : Hid ((rcT 0 (mostV v) 47 l k 0).2.2 = f')) :
    Calls Tryz.prog 135 #[.pointer (some ⟨b, 0, none⟩), .int .i64 v, .int .u8 111, .agg #[.int .i64 c.kind, .int .i64 c.client, .int .i64 c.req, .string c.key, .string c.key2, .string c.val, .string c.old, .int .i64 c.n]] w fun e w' => e = .returned (.agg #[.int .i64 c.kind, .int .i64 c.client, .int .i64 c.req, .string c.key, .string c.key2, .string c.val, .string u, .int .i64 c.n]) ∧ Touch b w w' ∧ Rdr w' b sa n cap k' f' l a := by
  obtain ⟨V, hV⟩ : ∃ V, V = (w.alloc (.cells #[.int .i64 c.kind, .int .i64 c.client, .int .i64 c.req, .string c.key, .string c.key2, .string c.val, .string c.old, .int .i64 c.n] 27)).alloc (.cells #[.int .i64 0, .int .i64 0, .int .i64 0, .string ⟨#[]⟩, .string ⟨#[]⟩, .string ⟨#[]⟩, .string ⟨#[]⟩, .int .i64 0] 27) := ⟨_, rfl⟩
  have F0 : Hid (Fld w V b sa n cap k 0 l a c) := by rw [hV]; exact fld_new h c
  have HS := hide h
  clear h
  have hm : mostV v ≤ 65536 := by unfold mostV; split <;> omega
  go_enter Tryz.func135, Tryz.ntmps135
  go_wp2_with fail
  rw [← hV]
  clear hV
  refine (rmost_any v _).mono ?_
  rintro e w0 ⟨rfl, rfl⟩
  go_wp2_with fail
  refine (rcText_any 0 (mostV v) 47 b n cap k 0 sa l a _ (by decide) (by decide) hm F0.out.rdr).mono ?_
  rintro e w1 ⟨rfl, T1, R1⟩
  rw [hu.out]
  rw [hk'.out, hf'.out] at R1
  have F1 := hide (F0.out.call HS.out T1 R1)
  clear T1 R1 F0
  have x0 : w1.cell? ⟨w.heap.size, 0, none⟩ = some (.int .i64 c.kind) := F1.out.box.box.1
  have x1 : w1.cell? ⟨w.heap.size, 1, none⟩ = some (.int .i64 c.client) := F1.out.box.box.2.1
  have x2 : w1.cell? ⟨w.heap.size, 2, none⟩ = some (.int .i64 c.req) := F1.out.box.box.2.2.1
  have x3 : w1.cell? ⟨w.heap.size, 3, none⟩ = some (.string c.key) := F1.out.box.box.2.2.2.1
  have x4 : w1.cell? ⟨w.heap.size, 4, none⟩ = some (.string c.key2) := F1.out.box.box.2.2.2.2.1
  have x5 : w1.cell? ⟨w.heap.size, 5, none⟩ = some (.string c.val) := F1.out.box.box.2.2.2.2.2.1
  have x6 : w1.cell? ⟨w.heap.size, 6, none⟩ = some (.string c.old) := F1.out.box.box.2.2.2.2.2.2.1
  have x7 : w1.cell? ⟨w.heap.size, 7, none⟩ = some (.int .i64 c.n) := F1.out.box.box.2.2.2.2.2.2.2
  have r0 : w1.cell? ⟨w.heap.size + 1, 0, none⟩ = some (.int .i64 0) := F1.out.res.box.1
  have fr0 : w1.frozen? ⟨w.heap.size + 1, 0, none⟩ = false := F1.out.res.thaw 0
  have r1 : w1.cell? ⟨w.heap.size + 1, 1, none⟩ = some (.int .i64 0) := F1.out.res.box.2.1
  have fr1 : w1.frozen? ⟨w.heap.size + 1, 1, none⟩ = false := F1.out.res.thaw 1
  have r2 : w1.cell? ⟨w.heap.size + 1, 2, none⟩ = some (.int .i64 0) := F1.out.res.box.2.2.1
  have fr2 : w1.frozen? ⟨w.heap.size + 1, 2, none⟩ = false := F1.out.res.thaw 2
  have r3 : w1.cell? ⟨w.heap.size + 1, 3, none⟩ = some (.string ⟨#[]⟩) := F1.out.res.box.2.2.2.1
  have fr3 : w1.frozen? ⟨w.heap.size + 1, 3, none⟩ = false := F1.out.res.thaw 3
  have r4 : w1.cell? ⟨w.heap.size + 1, 4, none⟩ = some (.string ⟨#[]⟩) := F1.out.res.box.2.2.2.2.1
  have fr4 : w1.frozen? ⟨w.heap.size + 1, 4, none⟩ = false := F1.out.res.thaw 4
  have r5 : w1.cell? ⟨w.heap.size + 1, 5, none⟩ = some (.string ⟨#[]⟩) := F1.out.res.box.2.2.2.2.2.1
  have fr5 : w1.frozen? ⟨w.heap.size + 1, 5, none⟩ = false := F1.out.res.thaw 5
  have r6 : w1.cell? ⟨w.heap.size + 1, 6, none⟩ = some (.string ⟨#[]⟩) := F1.out.res.box.2.2.2.2.2.2.1
  have fr6 : w1.frozen? ⟨w.heap.size + 1, 6, none⟩ = false := F1.out.res.thaw 6
  have r7 : w1.cell? ⟨w.heap.size + 1, 7, none⟩ = some (.int .i64 0) := F1.out.res.box.2.2.2.2.2.2.2
  have fr7 : w1.frozen? ⟨w.heap.size + 1, 7, none⟩ = false := F1.out.res.thaw 7
  have fx : w1.frozen? ⟨w.heap.size, 6, none⟩ = false := F1.out.box.thaw 6
  have hlt : w.heap.size + 1 < w1.heap.size := F1.out.res.lt
  go_wp2
  refine bodyPost_ret (v := .agg #[.int .i64 c.kind, .int .i64 c.client, .int .i64 c.req, .string c.key, .string c.key2, .string c.val, .string u, .int .i64 c.n]) (by simp [results, Tryz.results135, go_sem, *]) rfl ⟨rfl, ?_⟩
  iterate 8 refine fld_set HS.out ?_ _ _
  have F2 := F1.out.put HS.out 6 (.string u) (F1.out.box.old _)
  exact ⟨F2.touch, F2.rdr⟩
set_option maxHeartbeats 2000000 in
set_option maxRecDepth 100000 in
theorem field_v (v : Int) (c : Cm) (b n cap k : Nat) (sa : Option Addr) (l : List Int) (a : Nat → Addr) (w : World) (h : Rdr w b sa n cap k 0 l a) (u : ByteArray) (k' : Nat) (f' : Int) (hu : Hid ((rcT 0 (mostV v) 46 l k 0).1 = u)) (hk' : Hid ((rcT 0 (mostV v) 46 l k 0).2.1 = k')) (hf' : Hid ((rcT 0 (mostV v) 46 l k 0).2.2 = f')) :
    Calls Tryz.prog 135 #[.pointer (some ⟨b, 0, none⟩), .int .i64 v, .int .u8 118, .agg #[.int .i64 c.kind, .int .i64 c.client, .int .i64 c.req, .string c.key, .string c.key2, .string c.val, .string c.old, .int .i64 c.n]] w fun e w' => e = .returned (.agg #[.int .i64 c.kind, .int .i64 c.client, .int .i64 c.req, .string c.key, .string c.key2, .string u, .string c.old, .int .i64 c.n]) ∧ Touch b w w' ∧ Rdr w' b sa n cap k' f' l a := by
  obtain ⟨V, hV⟩ : ∃ V, V = (w.alloc (.cells #[.int .i64 c.kind, .int .i64 c.client, .int .i64 c.req, .string c.key, .string c.key2, .string c.val, .string c.old, .int .i64 c.n] 27)).alloc (.cells #[.int .i64 0, .int .i64 0, .int .i64 0, .string ⟨#[]⟩, .string ⟨#[]⟩, .string ⟨#[]⟩, .string ⟨#[]⟩, .int .i64 0] 27) := ⟨_, rfl⟩
  have F0 : Hid (Fld w V b sa n cap k 0 l a c) := by rw [hV]; exact fld_new h c
  have HS := hide h
  clear h
  have hm : mostV v ≤ 65536 := by unfold mostV; split <;> omega
  go_enter Tryz.func135, Tryz.ntmps135
  go_wp2_with fail
  rw [← hV]
  clear hV
  refine (rmost_any v _).mono ?_
  rintro e w0 ⟨rfl, rfl⟩
  go_wp2_with fail
  refine (rcText_any 0 (mostV v) 46 b n cap k 0 sa l a _ (by decide) (by decide) hm F0.out.rdr).mono ?_
  rintro e w1 ⟨rfl, T1, R1⟩
  rw [hu.out]
  rw [hk'.out, hf'.out] at R1
  have F1 := hide (F0.out.call HS.out T1 R1)
  clear T1 R1 F0
  have x0 : w1.cell? ⟨w.heap.size, 0, none⟩ = some (.int .i64 c.kind) := F1.out.box.box.1
  have x1 : w1.cell? ⟨w.heap.size, 1, none⟩ = some (.int .i64 c.client) := F1.out.box.box.2.1
  have x2 : w1.cell? ⟨w.heap.size, 2, none⟩ = some (.int .i64 c.req) := F1.out.box.box.2.2.1
  have x3 : w1.cell? ⟨w.heap.size, 3, none⟩ = some (.string c.key) := F1.out.box.box.2.2.2.1
  have x4 : w1.cell? ⟨w.heap.size, 4, none⟩ = some (.string c.key2) := F1.out.box.box.2.2.2.2.1
  have x5 : w1.cell? ⟨w.heap.size, 5, none⟩ = some (.string c.val) := F1.out.box.box.2.2.2.2.2.1
  have x6 : w1.cell? ⟨w.heap.size, 6, none⟩ = some (.string c.old) := F1.out.box.box.2.2.2.2.2.2.1
  have x7 : w1.cell? ⟨w.heap.size, 7, none⟩ = some (.int .i64 c.n) := F1.out.box.box.2.2.2.2.2.2.2
  have r0 : w1.cell? ⟨w.heap.size + 1, 0, none⟩ = some (.int .i64 0) := F1.out.res.box.1
  have fr0 : w1.frozen? ⟨w.heap.size + 1, 0, none⟩ = false := F1.out.res.thaw 0
  have r1 : w1.cell? ⟨w.heap.size + 1, 1, none⟩ = some (.int .i64 0) := F1.out.res.box.2.1
  have fr1 : w1.frozen? ⟨w.heap.size + 1, 1, none⟩ = false := F1.out.res.thaw 1
  have r2 : w1.cell? ⟨w.heap.size + 1, 2, none⟩ = some (.int .i64 0) := F1.out.res.box.2.2.1
  have fr2 : w1.frozen? ⟨w.heap.size + 1, 2, none⟩ = false := F1.out.res.thaw 2
  have r3 : w1.cell? ⟨w.heap.size + 1, 3, none⟩ = some (.string ⟨#[]⟩) := F1.out.res.box.2.2.2.1
  have fr3 : w1.frozen? ⟨w.heap.size + 1, 3, none⟩ = false := F1.out.res.thaw 3
  have r4 : w1.cell? ⟨w.heap.size + 1, 4, none⟩ = some (.string ⟨#[]⟩) := F1.out.res.box.2.2.2.2.1
  have fr4 : w1.frozen? ⟨w.heap.size + 1, 4, none⟩ = false := F1.out.res.thaw 4
  have r5 : w1.cell? ⟨w.heap.size + 1, 5, none⟩ = some (.string ⟨#[]⟩) := F1.out.res.box.2.2.2.2.2.1
  have fr5 : w1.frozen? ⟨w.heap.size + 1, 5, none⟩ = false := F1.out.res.thaw 5
  have r6 : w1.cell? ⟨w.heap.size + 1, 6, none⟩ = some (.string ⟨#[]⟩) := F1.out.res.box.2.2.2.2.2.2.1
  have fr6 : w1.frozen? ⟨w.heap.size + 1, 6, none⟩ = false := F1.out.res.thaw 6
  have r7 : w1.cell? ⟨w.heap.size + 1, 7, none⟩ = some (.int .i64 0) := F1.out.res.box.2.2.2.2.2.2.2
  have fr7 : w1.frozen? ⟨w.heap.size + 1, 7, none⟩ = false := F1.out.res.thaw 7
  have fx : w1.frozen? ⟨w.heap.size, 5, none⟩ = false := F1.out.box.thaw 5
  have hlt : w.heap.size + 1 < w1.heap.size := F1.out.res.lt
  go_wp2
  refine bodyPost_ret (v := .agg #[.int .i64 c.kind, .int .i64 c.client, .int .i64 c.req, .string c.key, .string c.key2, .string u, .string c.old, .int .i64 c.n]) (by simp [results, Tryz.results135, go_sem, *]) rfl ⟨rfl, ?_⟩
  iterate 8 refine fld_set HS.out ?_ _ _
  have F2 := F1.out.put HS.out 5 (.string u) (F1.out.box.val _)
  exact ⟨F2.touch, F2.rdr⟩
theorem Fld.num {w V : World} {b : Nat} {sa : Option Addr} {n cap k m : Nat} {l : List Int} {a : Nat → Addr} {c : Cm} (F0 : Fld w V b sa n cap k 0 l a c) (h0 : Rdr w b sa n cap k 0 l a) (q : Nat) (u : Int) (hkm : k + m ≤ n) (f' : Int) :
    Touch b w ((((V.drewN q).setCell ⟨w.heap.size, 7, none⟩ (.int .i64 u)).setCell ⟨b, 1, none⟩ (.int .i64 ((k : Int) + (m : Int)))).setCell ⟨b, 2, none⟩ (.int .i64 f')) ∧ Rdr ((((V.drewN q).setCell ⟨w.heap.size, 7, none⟩ (.int .i64 u)).setCell ⟨b, 1, none⟩ (.int .i64 ((k : Int) + (m : Int)))).setCell ⟨b, 2, none⟩ (.int .i64 f')) b sa n cap (k + m) f' l a := by
  have D := F0.call h0 ((Touch.refl b V).drewN q) (F0.rdr.drewN q)
  have P := D.put h0 7 (.int .i64 u) (D.box.n _)
  have M := rc_move (m := m) P.rdr 0 hkm
  have N := rc_break M.2 0 f'
  exact ⟨(P.touch.trans M.1).trans N.1, N.2⟩
set_option maxHeartbeats 2000000 in
set_option maxRecDepth 100000 in
theorem field_n1 (v : Int) (c : Cm) (b n cap k : Nat) (sa : Option Addr) (l : List Int) (a : Nat → Addr) (w : World) (h : Rdr w b sa n cap k 0 l a) (u : Int) (m : Nat) (f' : Int) (hkm : k + m ≤ n)  (sb so : Nat) (hsa : sa = some ⟨sb, so, none⟩) (_hk : k < n) (hcp : 0 < (cap : Int) - (k : Int))
    (hC : Hid (∀ (V : World) (q : Nat), Rdr V b sa n cap k 0 l a → Calls Tryz.prog 160 #[.slice (some ⟨sb, so + k, none⟩) (n - k) (cap - k)] (V.drewN q) fun e w' => e = .returned (.tuple #[.int .i64 u, .int .i64 (m : Int), .int .i64 f']) ∧ w' = V.drewN q)) :
    Calls Tryz.prog 135 #[.pointer (some ⟨b, 0, none⟩), .int .i64 v, .int .u8 110, .agg #[.int .i64 c.kind, .int .i64 c.client, .int .i64 c.req, .string c.key, .string c.key2, .string c.val, .string c.old, .int .i64 c.n]] w fun e w' => e = .returned (.agg #[.int .i64 c.kind, .int .i64 c.client, .int .i64 c.req, .string c.key, .string c.key2, .string c.val, .string c.old, .int .i64 u]) ∧ Touch b w w' ∧ Rdr w' b sa n cap (k + m) f' l a := by
  obtain ⟨V, hV⟩ : ∃ V, V = (w.alloc (.cells #[.int .i64 c.kind, .int .i64 c.client, .int .i64 c.req, .string c.key, .string c.key2, .string c.val, .string c.old, .int .i64 c.n] 27)).alloc (.cells #[.int .i64 0, .int .i64 0, .int .i64 0, .string ⟨#[]⟩, .string ⟨#[]⟩, .string ⟨#[]⟩, .string ⟨#[]⟩, .int .i64 0] 27) := ⟨_, rfl⟩
  have F0 : Hid (Fld w V b sa n cap k 0 l a c) := by rw [hV]; exact fld_new h c
  have HS := hide h
  have hcm := h.capMax
  have hcl := h.capLe
  have hkn := h.ready.le
  unfold maxLen at hcm
  clear h
  have HC : Hid (∀ q, Calls Tryz.prog 160 #[.slice (some ⟨sb, so + k, none⟩) (n - k) (cap - k)] (V.drewN q) fun e w' => e = .returned (.tuple #[.int .i64 u, .int .i64 (m : Int), .int .i64 f']) ∧ w' = V.drewN q) := fun q => hC.out V q F0.out.rdr
  clear hC
  have c0 : V.cell? ⟨b, 0, none⟩ = some (.slice sa n cap) := F0.out.rdr.ready.cur.1
  have c1 : V.cell? ⟨b, 1, none⟩ = some (.int .i64 (k : Int)) := F0.out.rdr.ready.cur.2.1
  have g1 : V.frozen? ⟨b, 1, none⟩ = false := F0.out.rdr.ready.cur.2.2
  have c2 := F0.out.rdr.fault
  have g2 := F0.out.rdr.thaw
  subst hsa
  have hbl : b ≠ w.heap.size := by have := HS.out.lt; omega
  have hbl2 : b ≠ w.heap.size + 1 := by have := HS.out.lt; omega
  have x0 : V.cell? ⟨w.heap.size, 0, none⟩ = some (.int .i64 c.kind) := F0.out.box.box.1
  have x1 : V.cell? ⟨w.heap.size, 1, none⟩ = some (.int .i64 c.client) := F0.out.box.box.2.1
  have x2 : V.cell? ⟨w.heap.size, 2, none⟩ = some (.int .i64 c.req) := F0.out.box.box.2.2.1
  have x3 : V.cell? ⟨w.heap.size, 3, none⟩ = some (.string c.key) := F0.out.box.box.2.2.2.1
  have x4 : V.cell? ⟨w.heap.size, 4, none⟩ = some (.string c.key2) := F0.out.box.box.2.2.2.2.1
  have x5 : V.cell? ⟨w.heap.size, 5, none⟩ = some (.string c.val) := F0.out.box.box.2.2.2.2.2.1
  have x6 : V.cell? ⟨w.heap.size, 6, none⟩ = some (.string c.old) := F0.out.box.box.2.2.2.2.2.2.1
  have x7 : V.cell? ⟨w.heap.size, 7, none⟩ = some (.int .i64 c.n) := F0.out.box.box.2.2.2.2.2.2.2
  have r0 : V.cell? ⟨w.heap.size + 1, 0, none⟩ = some (.int .i64 0) := F0.out.res.box.1
  have fr0 : V.frozen? ⟨w.heap.size + 1, 0, none⟩ = false := F0.out.res.thaw 0
  have r1 : V.cell? ⟨w.heap.size + 1, 1, none⟩ = some (.int .i64 0) := F0.out.res.box.2.1
  have fr1 : V.frozen? ⟨w.heap.size + 1, 1, none⟩ = false := F0.out.res.thaw 1
  have r2 : V.cell? ⟨w.heap.size + 1, 2, none⟩ = some (.int .i64 0) := F0.out.res.box.2.2.1
  have fr2 : V.frozen? ⟨w.heap.size + 1, 2, none⟩ = false := F0.out.res.thaw 2
  have r3 : V.cell? ⟨w.heap.size + 1, 3, none⟩ = some (.string ⟨#[]⟩) := F0.out.res.box.2.2.2.1
  have fr3 : V.frozen? ⟨w.heap.size + 1, 3, none⟩ = false := F0.out.res.thaw 3
  have r4 : V.cell? ⟨w.heap.size + 1, 4, none⟩ = some (.string ⟨#[]⟩) := F0.out.res.box.2.2.2.2.1
  have fr4 : V.frozen? ⟨w.heap.size + 1, 4, none⟩ = false := F0.out.res.thaw 4
  have r5 : V.cell? ⟨w.heap.size + 1, 5, none⟩ = some (.string ⟨#[]⟩) := F0.out.res.box.2.2.2.2.2.1
  have fr5 : V.frozen? ⟨w.heap.size + 1, 5, none⟩ = false := F0.out.res.thaw 5
  have r6 : V.cell? ⟨w.heap.size + 1, 6, none⟩ = some (.string ⟨#[]⟩) := F0.out.res.box.2.2.2.2.2.2.1
  have fr6 : V.frozen? ⟨w.heap.size + 1, 6, none⟩ = false := F0.out.res.thaw 6
  have r7 : V.cell? ⟨w.heap.size + 1, 7, none⟩ = some (.int .i64 0) := F0.out.res.box.2.2.2.2.2.2.2
  have fr7 : V.frozen? ⟨w.heap.size + 1, 7, none⟩ = false := F0.out.res.thaw 7
  have fx : V.frozen? ⟨w.heap.size, 7, none⟩ = false := F0.out.box.thaw 7
  have hlt : w.heap.size + 1 < V.heap.size := F0.out.res.lt
  go_enter Tryz.func135, Tryz.ntmps135
  go_upto_region 2 with fail
  rw [← hV]
  clear hV
  go_quiet ((go_at_call 160; exact Calls.quiet_of_same (HC.out _)))
  go_wp2
  refine bodyPost_ret (v := .agg #[.int .i64 c.kind, .int .i64 c.client, .int .i64 c.req, .string c.key, .string c.key2, .string c.val, .string c.old, .int .i64 u]) (by simp [results, Tryz.results135, go_sem, *]) rfl ⟨rfl, ?_⟩
  iterate 8 refine fld_set HS.out ?_ _ _
  exact F0.out.num HS.out _ u hkm f'
set_option maxHeartbeats 2000000 in
set_option maxRecDepth 100000 in
theorem field_n2 (v : Int) (c : Cm) (b n cap k : Nat) (sa : Option Addr) (l : List Int) (a : Nat → Addr) (w : World) (h : Rdr w b sa n cap k 0 l a) (u : Int) (m : Nat) (f' : Int) (hkm : k + m ≤ n)  (hk : k = n) (hcp : (cap : Int) - (k : Int) = 0)
    (hC : Hid (∀ (ad : Option Addr) (c : Nat) (V : World) (q : Nat), Rdr V b sa n cap k 0 l a → Calls Tryz.prog 160 #[.slice ad 0 c] (V.drewN q) fun e w' => e = .returned (.tuple #[.int .i64 u, .int .i64 (m : Int), .int .i64 f']) ∧ w' = V.drewN q)) :
    Calls Tryz.prog 135 #[.pointer (some ⟨b, 0, none⟩), .int .i64 v, .int .u8 110, .agg #[.int .i64 c.kind, .int .i64 c.client, .int .i64 c.req, .string c.key, .string c.key2, .string c.val, .string c.old, .int .i64 c.n]] w fun e w' => e = .returned (.agg #[.int .i64 c.kind, .int .i64 c.client, .int .i64 c.req, .string c.key, .string c.key2, .string c.val, .string c.old, .int .i64 u]) ∧ Touch b w w' ∧ Rdr w' b sa n cap (k + m) f' l a := by
  obtain ⟨V, hV⟩ : ∃ V, V = (w.alloc (.cells #[.int .i64 c.kind, .int .i64 c.client, .int .i64 c.req, .string c.key, .string c.key2, .string c.val, .string c.old, .int .i64 c.n] 27)).alloc (.cells #[.int .i64 0, .int .i64 0, .int .i64 0, .string ⟨#[]⟩, .string ⟨#[]⟩, .string ⟨#[]⟩, .string ⟨#[]⟩, .int .i64 0] 27) := ⟨_, rfl⟩
  have F0 : Hid (Fld w V b sa n cap k 0 l a c) := by rw [hV]; exact fld_new h c
  have HS := hide h
  have hcm := h.capMax
  have hcl := h.capLe
  have hkn := h.ready.le
  unfold maxLen at hcm
  clear h
  have HC : Hid (∀ (ad : Option Addr) (c q : Nat), Calls Tryz.prog 160 #[.slice ad 0 c] (V.drewN q) fun e w' => e = .returned (.tuple #[.int .i64 u, .int .i64 (m : Int), .int .i64 f']) ∧ w' = V.drewN q) := fun ad c q => hC.out ad c V q F0.out.rdr
  clear hC
  have c0 : V.cell? ⟨b, 0, none⟩ = some (.slice sa n cap) := F0.out.rdr.ready.cur.1
  have c1 : V.cell? ⟨b, 1, none⟩ = some (.int .i64 (k : Int)) := F0.out.rdr.ready.cur.2.1
  have g1 : V.frozen? ⟨b, 1, none⟩ = false := F0.out.rdr.ready.cur.2.2
  have c2 := F0.out.rdr.fault
  have g2 := F0.out.rdr.thaw
  subst hk
  have hbl : b ≠ w.heap.size := by have := HS.out.lt; omega
  have hbl2 : b ≠ w.heap.size + 1 := by have := HS.out.lt; omega
  have x0 : V.cell? ⟨w.heap.size, 0, none⟩ = some (.int .i64 c.kind) := F0.out.box.box.1
  have x1 : V.cell? ⟨w.heap.size, 1, none⟩ = some (.int .i64 c.client) := F0.out.box.box.2.1
  have x2 : V.cell? ⟨w.heap.size, 2, none⟩ = some (.int .i64 c.req) := F0.out.box.box.2.2.1
  have x3 : V.cell? ⟨w.heap.size, 3, none⟩ = some (.string c.key) := F0.out.box.box.2.2.2.1
  have x4 : V.cell? ⟨w.heap.size, 4, none⟩ = some (.string c.key2) := F0.out.box.box.2.2.2.2.1
  have x5 : V.cell? ⟨w.heap.size, 5, none⟩ = some (.string c.val) := F0.out.box.box.2.2.2.2.2.1
  have x6 : V.cell? ⟨w.heap.size, 6, none⟩ = some (.string c.old) := F0.out.box.box.2.2.2.2.2.2.1
  have x7 : V.cell? ⟨w.heap.size, 7, none⟩ = some (.int .i64 c.n) := F0.out.box.box.2.2.2.2.2.2.2
  have r0 : V.cell? ⟨w.heap.size + 1, 0, none⟩ = some (.int .i64 0) := F0.out.res.box.1
  have fr0 : V.frozen? ⟨w.heap.size + 1, 0, none⟩ = false := F0.out.res.thaw 0
  have r1 : V.cell? ⟨w.heap.size + 1, 1, none⟩ = some (.int .i64 0) := F0.out.res.box.2.1
  have fr1 : V.frozen? ⟨w.heap.size + 1, 1, none⟩ = false := F0.out.res.thaw 1
  have r2 : V.cell? ⟨w.heap.size + 1, 2, none⟩ = some (.int .i64 0) := F0.out.res.box.2.2.1
  have fr2 : V.frozen? ⟨w.heap.size + 1, 2, none⟩ = false := F0.out.res.thaw 2
  have r3 : V.cell? ⟨w.heap.size + 1, 3, none⟩ = some (.string ⟨#[]⟩) := F0.out.res.box.2.2.2.1
  have fr3 : V.frozen? ⟨w.heap.size + 1, 3, none⟩ = false := F0.out.res.thaw 3
  have r4 : V.cell? ⟨w.heap.size + 1, 4, none⟩ = some (.string ⟨#[]⟩) := F0.out.res.box.2.2.2.2.1
  have fr4 : V.frozen? ⟨w.heap.size + 1, 4, none⟩ = false := F0.out.res.thaw 4
  have r5 : V.cell? ⟨w.heap.size + 1, 5, none⟩ = some (.string ⟨#[]⟩) := F0.out.res.box.2.2.2.2.2.1
  have fr5 : V.frozen? ⟨w.heap.size + 1, 5, none⟩ = false := F0.out.res.thaw 5
  have r6 : V.cell? ⟨w.heap.size + 1, 6, none⟩ = some (.string ⟨#[]⟩) := F0.out.res.box.2.2.2.2.2.2.1
  have fr6 : V.frozen? ⟨w.heap.size + 1, 6, none⟩ = false := F0.out.res.thaw 6
  have r7 : V.cell? ⟨w.heap.size + 1, 7, none⟩ = some (.int .i64 0) := F0.out.res.box.2.2.2.2.2.2.2
  have fr7 : V.frozen? ⟨w.heap.size + 1, 7, none⟩ = false := F0.out.res.thaw 7
  have fx : V.frozen? ⟨w.heap.size, 7, none⟩ = false := F0.out.box.thaw 7
  have hlt : w.heap.size + 1 < V.heap.size := F0.out.res.lt
  go_enter Tryz.func135, Tryz.ntmps135
  go_upto_region 2 with fail
  rw [← hV]
  clear hV
  go_quiet ((go_at_call 160; exact Calls.quiet_of_same (HC.out _ _ _)))
  go_wp2
  refine bodyPost_ret (v := .agg #[.int .i64 c.kind, .int .i64 c.client, .int .i64 c.req, .string c.key, .string c.key2, .string c.val, .string c.old, .int .i64 u]) (by simp [results, Tryz.results135, go_sem, *]) rfl ⟨rfl, ?_⟩
  iterate 8 refine fld_set HS.out ?_ _ _
  exact F0.out.num HS.out _ u hkm f'
set_option maxHeartbeats 2000000 in
set_option maxRecDepth 100000 in
theorem field_n3 (v : Int) (c : Cm) (b n cap k : Nat) (sa : Option Addr) (l : List Int) (a : Nat → Addr) (w : World) (h : Rdr w b sa n cap k 0 l a) (u : Int) (m : Nat) (f' : Int) (hkm : k + m ≤ n)  (hk : k = n) (hcp : 0 < (cap : Int) - (k : Int))
    (hC : Hid (∀ (ad : Option Addr) (c : Nat) (V : World) (q : Nat), Rdr V b sa n cap k 0 l a → Calls Tryz.prog 160 #[.slice ad 0 c] (V.drewN q) fun e w' => e = .returned (.tuple #[.int .i64 u, .int .i64 (m : Int), .int .i64 f']) ∧ w' = V.drewN q)) :
    Calls Tryz.prog 135 #[.pointer (some ⟨b, 0, none⟩), .int .i64 v, .int .u8 110, .agg #[.int .i64 c.kind, .int .i64 c.client, .int .i64 c.req, .string c.key, .string c.key2, .string c.val, .string c.old, .int .i64 c.n]] w fun e w' => e = .returned (.agg #[.int .i64 c.kind, .int .i64 c.client, .int .i64 c.req, .string c.key, .string c.key2, .string c.val, .string c.old, .int .i64 u]) ∧ Touch b w w' ∧ Rdr w' b sa n cap (k + m) f' l a := by
  obtain ⟨V, hV⟩ : ∃ V, V = (w.alloc (.cells #[.int .i64 c.kind, .int .i64 c.client, .int .i64 c.req, .string c.key, .string c.key2, .string c.val, .string c.old, .int .i64 c.n] 27)).alloc (.cells #[.int .i64 0, .int .i64 0, .int .i64 0, .string ⟨#[]⟩, .string ⟨#[]⟩, .string ⟨#[]⟩, .string ⟨#[]⟩, .int .i64 0] 27) := ⟨_, rfl⟩
  have F0 : Hid (Fld w V b sa n cap k 0 l a c) := by rw [hV]; exact fld_new h c
  have HS := hide h
  have hcm := h.capMax
  have hcl := h.capLe
  have hkn := h.ready.le
  unfold maxLen at hcm
  clear h
  have HC : Hid (∀ (ad : Option Addr) (c q : Nat), Calls Tryz.prog 160 #[.slice ad 0 c] (V.drewN q) fun e w' => e = .returned (.tuple #[.int .i64 u, .int .i64 (m : Int), .int .i64 f']) ∧ w' = V.drewN q) := fun ad c q => hC.out ad c V q F0.out.rdr
  clear hC
  have c0 : V.cell? ⟨b, 0, none⟩ = some (.slice sa n cap) := F0.out.rdr.ready.cur.1
  have c1 : V.cell? ⟨b, 1, none⟩ = some (.int .i64 (k : Int)) := F0.out.rdr.ready.cur.2.1
  have g1 : V.frozen? ⟨b, 1, none⟩ = false := F0.out.rdr.ready.cur.2.2
  have c2 := F0.out.rdr.fault
  have g2 := F0.out.rdr.thaw
  subst hk
  have hbl : b ≠ w.heap.size := by have := HS.out.lt; omega
  have hbl2 : b ≠ w.heap.size + 1 := by have := HS.out.lt; omega
  have x0 : V.cell? ⟨w.heap.size, 0, none⟩ = some (.int .i64 c.kind) := F0.out.box.box.1
  have x1 : V.cell? ⟨w.heap.size, 1, none⟩ = some (.int .i64 c.client) := F0.out.box.box.2.1
  have x2 : V.cell? ⟨w.heap.size, 2, none⟩ = some (.int .i64 c.req) := F0.out.box.box.2.2.1
  have x3 : V.cell? ⟨w.heap.size, 3, none⟩ = some (.string c.key) := F0.out.box.box.2.2.2.1
  have x4 : V.cell? ⟨w.heap.size, 4, none⟩ = some (.string c.key2) := F0.out.box.box.2.2.2.2.1
  have x5 : V.cell? ⟨w.heap.size, 5, none⟩ = some (.string c.val) := F0.out.box.box.2.2.2.2.2.1
  have x6 : V.cell? ⟨w.heap.size, 6, none⟩ = some (.string c.old) := F0.out.box.box.2.2.2.2.2.2.1
  have x7 : V.cell? ⟨w.heap.size, 7, none⟩ = some (.int .i64 c.n) := F0.out.box.box.2.2.2.2.2.2.2
  have r0 : V.cell? ⟨w.heap.size + 1, 0, none⟩ = some (.int .i64 0) := F0.out.res.box.1
  have fr0 : V.frozen? ⟨w.heap.size + 1, 0, none⟩ = false := F0.out.res.thaw 0
  have r1 : V.cell? ⟨w.heap.size + 1, 1, none⟩ = some (.int .i64 0) := F0.out.res.box.2.1
  have fr1 : V.frozen? ⟨w.heap.size + 1, 1, none⟩ = false := F0.out.res.thaw 1
  have r2 : V.cell? ⟨w.heap.size + 1, 2, none⟩ = some (.int .i64 0) := F0.out.res.box.2.2.1
  have fr2 : V.frozen? ⟨w.heap.size + 1, 2, none⟩ = false := F0.out.res.thaw 2
  have r3 : V.cell? ⟨w.heap.size + 1, 3, none⟩ = some (.string ⟨#[]⟩) := F0.out.res.box.2.2.2.1
  have fr3 : V.frozen? ⟨w.heap.size + 1, 3, none⟩ = false := F0.out.res.thaw 3
  have r4 : V.cell? ⟨w.heap.size + 1, 4, none⟩ = some (.string ⟨#[]⟩) := F0.out.res.box.2.2.2.2.1
  have fr4 : V.frozen? ⟨w.heap.size + 1, 4, none⟩ = false := F0.out.res.thaw 4
  have r5 : V.cell? ⟨w.heap.size + 1, 5, none⟩ = some (.string ⟨#[]⟩) := F0.out.res.box.2.2.2.2.2.1
  have fr5 : V.frozen? ⟨w.heap.size + 1, 5, none⟩ = false := F0.out.res.thaw 5
  have r6 : V.cell? ⟨w.heap.size + 1, 6, none⟩ = some (.string ⟨#[]⟩) := F0.out.res.box.2.2.2.2.2.2.1
  have fr6 : V.frozen? ⟨w.heap.size + 1, 6, none⟩ = false := F0.out.res.thaw 6
  have r7 : V.cell? ⟨w.heap.size + 1, 7, none⟩ = some (.int .i64 0) := F0.out.res.box.2.2.2.2.2.2.2
  have fr7 : V.frozen? ⟨w.heap.size + 1, 7, none⟩ = false := F0.out.res.thaw 7
  have fx : V.frozen? ⟨w.heap.size, 7, none⟩ = false := F0.out.box.thaw 7
  have hlt : w.heap.size + 1 < V.heap.size := F0.out.res.lt
  go_enter Tryz.func135, Tryz.ntmps135
  go_upto_region 2 with fail
  rw [← hV]
  clear hV
  go_quiet ((go_at_call 160; exact Calls.quiet_of_same (HC.out _ _ _)))
  go_wp2
  refine bodyPost_ret (v := .agg #[.int .i64 c.kind, .int .i64 c.client, .int .i64 c.req, .string c.key, .string c.key2, .string c.val, .string c.old, .int .i64 u]) (by simp [results, Tryz.results135, go_sem, *]) rfl ⟨rfl, ?_⟩
  iterate 8 refine fld_set HS.out ?_ _ _
  exact F0.out.num HS.out _ u hkm f'
theorem field_n (v : Int) (c : Cm) (b n cap k : Nat) (sa : Option Addr) (l : List Int) (a : Nat → Addr) (w : World) (h : Rdr w b sa n cap k 0 l a) :
    Calls Tryz.prog 135 #[.pointer (some ⟨b, 0, none⟩), .int .i64 v, .int .u8 110, .agg #[.int .i64 c.kind, .int .i64 c.client, .int .i64 c.req, .string c.key, .string c.key2, .string c.val, .string c.old, .int .i64 c.n]] w fun e w' => e = .returned (.agg #[.int .i64 c.kind, .int .i64 c.client, .int .i64 c.req, .string c.key, .string c.key2, .string c.val, .string c.old, .int .i64 (rcI l k).1]) ∧ Touch b w w' ∧ Rdr w' b sa n cap (rcI l k).2.1 (rcI l k).2.2 l a := by
  have bk := byt_drop h.ready.byt k
  have hl := h.ready.seg.1
  have hkn := h.ready.le
  cases hd : dec (l.drop k) with
  | error i =>
    rw [show rcI l k = (0, k, 11 + (i : Int)) by unfold rcI; rw [hd]]
    have C0 : ∀ (ad : Option Addr) (nn cp : Nat) (V : World), Seg V ad nn (l.drop k) → Calls Tryz.prog 160 #[.slice ad nn cp] V fun e w' => e = .returned (.tuple #[.int .i64 0, .int .i64 ((0 : Nat) : Int), .int .i64 (11 + (i : Int))]) ∧ w' = V := fun ad nn cp V hs => by
      have := rcI_ret nn cp ad _ V hs bk; rw [hd] at this; exact this
    rcases rc_forms h with ⟨sb, so, rfl, g1, g2, g3⟩ | ⟨rfl, g2, g3⟩ | ⟨rfl, g2, g3⟩
    · exact field_n1 v c b n cap k _ l a w h 0 0 _ (by omega) sb so rfl g1 g2 (fun V q hV => C0 _ _ _ _ ((hV.ready.seg.drewN q).from (by omega)))
    · exact field_n2 v c b k cap k _ l a w h 0 0 _ (by omega) rfl g2 (fun ad cp V q hV => C0 _ _ _ _ (by rw [g3]; exact seg_empty _ _))
    · exact field_n3 v c b k cap k _ l a w h 0 0 _ (by omega) rfl g2 (fun ad cp V q hV => C0 _ _ _ _ (by rw [g3]; exact seg_empty _ _))
  | ok p =>
    obtain ⟨x, m⟩ := p
    rw [show rcI l k = (unzig x, k + m, 0) by unfold rcI; rw [hd]]
    have hm : k + m ≤ n := by have := (dec_len bk hd).2.2; rw [List.length_drop, hl] at this; omega
    rcases rc_forms h with ⟨sb, so, rfl, g1, g2, g3⟩ | ⟨rfl, g2, g3⟩ | ⟨rfl, g2, g3⟩
    · exact field_n1 v c b n cap k _ l a w h _ m _ hm sb so rfl g1 g2 (fun V q hV => by
        have := rcI_ret (n - k) (cap - k) _ _ (V.drewN q) ((hV.ready.seg.drewN q).from (by omega)) bk; rw [hd] at this; exact this)
    · rw [g3] at hd; cases hd
    · rw [g3] at hd; cases hd

theorem field_any (v x : Int) (c : Cm) (b n cap k : Nat) (sa : Option Addr) (l : List Int) (a : Nat → Addr) (w : World) (hx : x = 99 ∨ x = 114 ∨ x = 107 ∨ x = 106 ∨ x = 111 ∨ x = 118 ∨ x = 110) (hk : c.key.size ≤ 64) (h : Rdr w b sa n cap k 0 l a) :
    Calls Tryz.prog 135 #[.pointer (some ⟨b, 0, none⟩), .int .i64 v, .int .u8 x, .agg #[.int .i64 c.kind, .int .i64 c.client, .int .i64 c.req, .string c.key, .string c.key2, .string c.val, .string c.old, .int .i64 c.n]] w fun e w' => e = .returned (.agg #[.int .i64 (rcF v x c l k).1.kind, .int .i64 (rcF v x c l k).1.client, .int .i64 (rcF v x c l k).1.req, .string (rcF v x c l k).1.key, .string (rcF v x c l k).1.key2, .string (rcF v x c l k).1.val, .string (rcF v x c l k).1.old, .int .i64 (rcF v x c l k).1.n]) ∧ Touch b w w' ∧ Rdr w' b sa n cap (rcF v x c l k).2.1 (rcF v x c l k).2.2 l a := by
  rcases hx with rfl | rfl | rfl | rfl | rfl | rfl | rfl
  · exact field_c v c b n cap k sa l a w h _ _ _ rfl rfl rfl
  · exact field_r v c b n cap k sa l a w h _ _ _ rfl rfl rfl
  · exact field_k v c b n cap k sa l a w h _ _ _ rfl rfl rfl
  · exact field_j v c b n cap k sa l a w hk h _ _ _ rfl rfl rfl
  · exact field_o v c b n cap k sa l a w h _ _ _ rfl rfl rfl
  · exact field_v v c b n cap k sa l a w h _ _ _ rfl rfl rfl
  · exact field_n v c b n cap k sa l a w h
end Go.Proofs.YtlhididcanedhaaGreatDoor
