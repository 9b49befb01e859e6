/- The statements' pair of disks: plays, kind by kind. -/
import Derived.Test.YtahpnfbjpdnapaaDkPapp
import Derived.Test.YtahpnfbjpdnapaaDkRSync
import Derived.Test.YtahpnfbjpdnapaaDkRCut
namespace Go.Proofs.Ytahpnfbjpdnapaa
open Go.RowKit Go.Wire1 Go.MuLone

theorem stp_dr {w wA w1 w2 : World} {ro ro1 : Nat → Nat} {o pb b rb : Nat} {pv sv tv rv pv' sv' tv' : Value} {S T R S' T' : List Int} {E0 : Nat} (hA : Below w.heap.size w wA) (ag : ∀ k, k < w.heap.size → ro1 k = ro k) (P : Par wA ro1 o pb b rb pv sv tv rv S T R E0) (hd : Dst 0 wA w1 b pv pv' (S' ++ T') S'.length E0) (hr : RDst w1 w2 rb sv tv sv' tv' S' T' E0) : Stp9 w w2 ro o pb E0 := by
  obtain ⟨ro', ag', P', keep⟩ := P.dr hd hr
  have z := hA.size
  exact ⟨⟨ro', _, _, _, _, _, _, _, _, _, fun k hk => (ag' k (by omega)).trans (ag k hk), P'⟩, hr.os.trans (hd.tch.os.trans hA.os), hr.tape.trans (hd.tch.tape.trans hA.tape), hr.output.trans (hd.tch.output.trans hA.output), by have := hd.tch.size; have := hr.size; omega, fun k hk h => by
    have e := ag k hk
    rw [keep k (by omega) (by omega) (by omega), hA.block k hk]⟩
theorem Stp9.after {w wA w' : World} {ro ro1 : Nat → Nat} {o pb E0 : Nat} (hA : Below w.heap.size w wA) (ag : ∀ k, k < w.heap.size → ro1 k = ro k) (h : Stp9 wA w' ro1 o pb E0) : Stp9 w w' ro o pb E0 := by
  have z := hA.size
  obtain ⟨ro', b, rb, pv, sv, tv, rv, S, T, R, e, P⟩ := h.ex
  exact ⟨⟨ro', b, rb, pv, sv, tv, rv, S, T, R, fun k hk => (e k (by omega)).trans (ag k hk), P⟩, h.os.trans hA.os, h.tape.trans hA.tape, h.output.trans hA.output, Nat.le_trans z h.size, fun k hk hr => (h.keep k (by omega) (by rw [ag k hk]; exact hr)).trans (hA.block k hk)⟩

set_option maxHeartbeats 8000000 in
set_option maxRecDepth 100000 in
theorem plays_3 (w : World) (ro : Nat → Nat) (o pb b rb : Nat) (pv sv tv rv : Value) (S T R : List Int) (E0 : Nat) (h : Par w ro o pb b rb pv sv tv rv S T R E0) (sc : Bool) (ai xi ti : Int) (da : Option Addr) (dn dc : Nat) (ev : Int) (S' T' : List Int)
    (hd : ∀ w0, Dsk 0 w0 b pv (S ++ T) S.length E0 → Calls Try.prog 21 #[.pointer (some ⟨b, 0, none⟩), .int .i64 ai] w0 fun r w' => r = .returned (.int .i64 ev) ∧ ∃ pv', Dst 0 w0 w' b pv pv' (S' ++ T') S'.length E0)
    (hr : ∀ w0, RDk w0 rb sv tv S T E0 → Calls Try.prog 31 #[.pointer (some ⟨rb, 0, none⟩), .int .i64 ai] w0 fun r w' => r = .returned (.int .i64 ev) ∧ ∃ sv' tv', RDst w0 w' rb sv tv sv' tv' S' T' E0) :
    Calls Try.prog 15 #[.pointer (some ⟨pb, 0, none⟩), .agg #[.int .i64 3, .bool sc, .int .i64 ai, .int .i64 xi, .int .i64 ti, .slice da dn dc]] w fun r w' => r = .returned (.bool true) ∧ Stp9 w w' ro o pb E0 := by
  have HD := hide hd
  have HR := hide hr
  clear hd hr
  obtain ⟨OB, hOB⟩ : ∃ OB, OB = Obj.cells #[.int .i64 3, .bool sc, .int .i64 ai, .int .i64 xi, .int .i64 ti, .slice da dn dc] 33 := ⟨_, rfl⟩
  obtain ⟨ro1, hro1⟩ : ∃ ro1 : Nat → Nat, ro1 = fun k => if k < w.heap.size then ro k else 0 := ⟨_, rfl⟩
  have AG1 : Hid (∀ k, k < w.heap.size → ro1 k = ro k) := fun k hk => by rw [hro1]; exact if_pos hk
  have RX1 : Hid (ro1 w.heap.size = 0) := by rw [hro1]; exact if_neg (Nat.lt_irrefl _)
  obtain ⟨wA, hwA⟩ : ∃ wA, wA = w.alloc OB := ⟨_, rfl⟩
  have hA : Below w.heap.size w wA := by rw [hwA]; exact (Below.refl _ _).alloc (Nat.le_refl _) _
  have P1 := hide ((h.rerole AG1.out).later hA)
  have BA := hide hA
  have BOXA : Blk wA w.heap.size [.int .i64 3, .bool sc, .int .i64 ai, .int .i64 xi, .int .i64 ti, .slice da dn dc] := by rw [hwA, hOB]; exact blk_new w _ [.int .i64 3, .bool sc, .int .i64 ai, .int .i64 xi, .int .i64 ti, .slice da dn dc]
  have HOB := hide hOB
  have HWA := hide hwA
  obtain ⟨X, hX⟩ : ∃ X, X = w.heap.size := ⟨_, rfl⟩
  have HX := hide hX
  rw [← hX] at BOXA RX1
  have x0 := BOXA.cell 0 _ rfl
  have x1 := BOXA.cell 1 _ rfl
  have x2 := BOXA.cell 2 _ rfl
  have x3 := BOXA.cell 3 _ rfl
  have x4 := BOXA.cell 4 _ rfl
  have x5 := BOXA.cell 5 _ rfl
  have XA : Hid (X < wA.heap.size) := BOXA.lt
  have c0 := P1.out.box.cell 0 _ rfl
  have c1 := P1.out.box.cell 1 _ rfl
  have PBA : Hid (pb < wA.heap.size) := P1.out.box.lt
  have PD : Hid (pb ≠ b ∧ some pb ≠ pv.ownBlock) := P1.out.dfree (by have := P1.out.q1; omega)
  have PR : Hid (pb ≠ rb ∧ sv.ownBlock ≠ some pb ∧ tv.ownBlock ≠ some pb) := P1.out.rfree (by have := P1.out.q1; omega)
  have XD : Hid (X ≠ b ∧ some X ≠ pv.ownBlock) := P1.out.dfree (by have := RX1.out; omega)
  have XR : Hid (X ≠ rb ∧ sv.ownBlock ≠ some X ∧ tv.ownBlock ≠ some X) := P1.out.rfree (by have := RX1.out; omega)
  clear hA h hwA hX BOXA hro1 hOB
  go_enter Try.func15, Try.ntmps15
  go_wp2_with fail
  rw [← HX.out, ← HOB.out, ← HWA.out]
  go_region_held3 (fun w' => w'.cell? ⟨pb, 0, none⟩ = some (.pointer (some ⟨b, 0, none⟩)) ∧ w'.cell? ⟨X, 2, none⟩ = some (.int .i64 ai)) (first | exact ⟨c0, x2⟩ | go_keep | exact ⟨(World.cell?_of_block (hd3.tch.block pb (by exact PBA.out) PD.out.1 PD.out.2)).trans c0, (World.cell?_of_block (hd3.tch.block X (by exact XA.out) XD.out.1 XD.out.2)).trans x2⟩) ((go_at_call 21; refine (HD.out _ (P1.out.d.later (below_drewN' (Below.refl _ _) _))).mono ?_; rintro e w3 ⟨rfl, pv', hd3⟩))
  have D3 : Hid (Dst 0 wA w3 b pv pv' (S' ++ T') S'.length E0) := ⟨hd3.dsk, ⟨hd3.tch.os, hd3.tch.tape, hd3.tch.output, hd3.tch.size, hd3.tch.block⟩, hd3.lat⟩
  clear hd3
  have R3 : Hid (RDk w3 rb sv tv S T E0) := by
    refine P1.out.r.on ?_ (fun j hj => ?_) (fun j hj => ?_)
    · obtain ⟨r1, r2⟩ := P1.out.dfree (k := rb) (by have := P1.out.q3 rb (.inl rfl); omega)
      exact D3.out.tch.block _ P1.out.r.box.lt r1 r2
    · obtain ⟨r1, r2⟩ := P1.out.dfree (k := j) (by have := P1.out.q3 j (.inr (.inl hj)); omega)
      exact D3.out.tch.block _ (P1.out.r.so.lt j hj).2 r1 r2
    · obtain ⟨r1, r2⟩ := P1.out.dfree (k := j) (by have := P1.out.q3 j (.inr (.inr hj)); omega)
      exact D3.out.tch.block _ (P1.out.r.to.lt j hj).2 r1 r2
  have d1 : w3.cell? ⟨pb, 1, none⟩ = some (.pointer (some ⟨rb, 0, none⟩)) := (World.cell?_of_block (D3.out.tch.block pb PBA.out PD.out.1 PD.out.2)).trans c1
  have y2 : w3.cell? ⟨X, 2, none⟩ = some (.int .i64 ai) := (World.cell?_of_block (D3.out.tch.block X XA.out XD.out.1 XD.out.2)).trans x2
  have PB3 : Hid (pb < w3.heap.size) := Nat.lt_of_lt_of_le PBA.out D3.out.tch.size
  have X3 : Hid (X < w3.heap.size) := Nat.lt_of_lt_of_le XA.out D3.out.tch.size
  clear c0 c1 x0 x1 x2 x3 x4 x5
  go_wp2_with fail
  go_region_held3 (fun w' => w'.cell? ⟨pb, 1, none⟩ = some (.pointer (some ⟨rb, 0, none⟩)) ∧ w'.cell? ⟨X, 2, none⟩ = some (.int .i64 ai)) (first | exact ⟨d1, y2⟩ | go_keep | exact ⟨(World.cell?_of_block (hr4.block pb (by exact PB3.out) PR.out.1 PR.out.2.1 PR.out.2.2)).trans d1, (World.cell?_of_block (hr4.block X (by exact X3.out) XR.out.1 XR.out.2.1 XR.out.2.2)).trans y2⟩) ((go_at_call 31; refine (HR.out _ (R3.out.drew _)).mono ?_; rintro e w4 ⟨rfl, sv', tv', hr4⟩))
  have ST := hide (stp_dr BA.out AG1.out P1.out D3.out (hr4.ofDrew))
  clear hr4 d1 y2
  go_wp2_with fail
  refine (num9_any ev _).mono ?_
  rintro e w9 ⟨rfl, rfl⟩
  go_wp2
  go_ret
  exact ⟨rfl, ST.out⟩

set_option maxHeartbeats 8000000 in
set_option maxRecDepth 100000 in
theorem plays_4 (w : World) (ro : Nat → Nat) (o pb b rb : Nat) (pv sv tv rv : Value) (S T R : List Int) (E0 : Nat) (h : Par w ro o pb b rb pv sv tv rv S T R E0) (sc : Bool) (ai xi ti : Int) (da : Option Addr) (dn dc : Nat) (ev : Int) (S' T' : List Int)
    (hd : ∀ w0, Dsk 0 w0 b pv (S ++ T) S.length E0 → Calls Try.prog 22 #[.pointer (some ⟨b, 0, none⟩), .int .i64 ai] w0 fun r w' => r = .returned (.int .i64 ev) ∧ ∃ pv', Dst 0 w0 w' b pv pv' (S' ++ T') S'.length E0)
    (hr : ∀ w0, RDk w0 rb sv tv S T E0 → Calls Try.prog 32 #[.pointer (some ⟨rb, 0, none⟩), .int .i64 ai] w0 fun r w' => r = .returned (.int .i64 ev) ∧ ∃ sv' tv', RDst w0 w' rb sv tv sv' tv' S' T' E0) :
    Calls Try.prog 15 #[.pointer (some ⟨pb, 0, none⟩), .agg #[.int .i64 4, .bool sc, .int .i64 ai, .int .i64 xi, .int .i64 ti, .slice da dn dc]] w fun r w' => r = .returned (.bool true) ∧ Stp9 w w' ro o pb E0 := by
  have HD := hide hd
  have HR := hide hr
  clear hd hr
  obtain ⟨OB, hOB⟩ : ∃ OB, OB = Obj.cells #[.int .i64 4, .bool sc, .int .i64 ai, .int .i64 xi, .int .i64 ti, .slice da dn dc] 33 := ⟨_, rfl⟩
  obtain ⟨ro1, hro1⟩ : ∃ ro1 : Nat → Nat, ro1 = fun k => if k < w.heap.size then ro k else 0 := ⟨_, rfl⟩
  have AG1 : Hid (∀ k, k < w.heap.size → ro1 k = ro k) := fun k hk => by rw [hro1]; exact if_pos hk
  have RX1 : Hid (ro1 w.heap.size = 0) := by rw [hro1]; exact if_neg (Nat.lt_irrefl _)
  obtain ⟨wA, hwA⟩ : ∃ wA, wA = w.alloc OB := ⟨_, rfl⟩
  have hA : Below w.heap.size w wA := by rw [hwA]; exact (Below.refl _ _).alloc (Nat.le_refl _) _
  have P1 := hide ((h.rerole AG1.out).later hA)
  have BA := hide hA
  have BOXA : Blk wA w.heap.size [.int .i64 4, .bool sc, .int .i64 ai, .int .i64 xi, .int .i64 ti, .slice da dn dc] := by rw [hwA, hOB]; exact blk_new w _ [.int .i64 4, .bool sc, .int .i64 ai, .int .i64 xi, .int .i64 ti, .slice da dn dc]
  have HOB := hide hOB
  have HWA := hide hwA
  obtain ⟨X, hX⟩ : ∃ X, X = w.heap.size := ⟨_, rfl⟩
  have HX := hide hX
  rw [← hX] at BOXA RX1
  have x0 := BOXA.cell 0 _ rfl
  have x1 := BOXA.cell 1 _ rfl
  have x2 := BOXA.cell 2 _ rfl
  have x3 := BOXA.cell 3 _ rfl
  have x4 := BOXA.cell 4 _ rfl
  have x5 := BOXA.cell 5 _ rfl
  have XA : Hid (X < wA.heap.size) := BOXA.lt
  have c0 := P1.out.box.cell 0 _ rfl
  have c1 := P1.out.box.cell 1 _ rfl
  have PBA : Hid (pb < wA.heap.size) := P1.out.box.lt
  have PD : Hid (pb ≠ b ∧ some pb ≠ pv.ownBlock) := P1.out.dfree (by have := P1.out.q1; omega)
  have PR : Hid (pb ≠ rb ∧ sv.ownBlock ≠ some pb ∧ tv.ownBlock ≠ some pb) := P1.out.rfree (by have := P1.out.q1; omega)
  have XD : Hid (X ≠ b ∧ some X ≠ pv.ownBlock) := P1.out.dfree (by have := RX1.out; omega)
  have XR : Hid (X ≠ rb ∧ sv.ownBlock ≠ some X ∧ tv.ownBlock ≠ some X) := P1.out.rfree (by have := RX1.out; omega)
  clear hA h hwA hX BOXA hro1 hOB
  go_enter Try.func15, Try.ntmps15
  go_wp2_with fail
  rw [← HX.out, ← HOB.out, ← HWA.out]
  go_region_held3 (fun w' => w'.cell? ⟨pb, 0, none⟩ = some (.pointer (some ⟨b, 0, none⟩)) ∧ w'.cell? ⟨X, 2, none⟩ = some (.int .i64 ai)) (first | exact ⟨c0, x2⟩ | go_keep | exact ⟨(World.cell?_of_block (hd3.tch.block pb (by exact PBA.out) PD.out.1 PD.out.2)).trans c0, (World.cell?_of_block (hd3.tch.block X (by exact XA.out) XD.out.1 XD.out.2)).trans x2⟩) ((go_at_call 22; refine (HD.out _ (P1.out.d.later (below_drewN' (Below.refl _ _) _))).mono ?_; rintro e w3 ⟨rfl, pv', hd3⟩))
  have D3 : Hid (Dst 0 wA w3 b pv pv' (S' ++ T') S'.length E0) := ⟨hd3.dsk, ⟨hd3.tch.os, hd3.tch.tape, hd3.tch.output, hd3.tch.size, hd3.tch.block⟩, hd3.lat⟩
  clear hd3
  have R3 : Hid (RDk w3 rb sv tv S T E0) := by
    refine P1.out.r.on ?_ (fun j hj => ?_) (fun j hj => ?_)
    · obtain ⟨r1, r2⟩ := P1.out.dfree (k := rb) (by have := P1.out.q3 rb (.inl rfl); omega)
      exact D3.out.tch.block _ P1.out.r.box.lt r1 r2
    · obtain ⟨r1, r2⟩ := P1.out.dfree (k := j) (by have := P1.out.q3 j (.inr (.inl hj)); omega)
      exact D3.out.tch.block _ (P1.out.r.so.lt j hj).2 r1 r2
    · obtain ⟨r1, r2⟩ := P1.out.dfree (k := j) (by have := P1.out.q3 j (.inr (.inr hj)); omega)
      exact D3.out.tch.block _ (P1.out.r.to.lt j hj).2 r1 r2
  have d1 : w3.cell? ⟨pb, 1, none⟩ = some (.pointer (some ⟨rb, 0, none⟩)) := (World.cell?_of_block (D3.out.tch.block pb PBA.out PD.out.1 PD.out.2)).trans c1
  have y2 : w3.cell? ⟨X, 2, none⟩ = some (.int .i64 ai) := (World.cell?_of_block (D3.out.tch.block X XA.out XD.out.1 XD.out.2)).trans x2
  have PB3 : Hid (pb < w3.heap.size) := Nat.lt_of_lt_of_le PBA.out D3.out.tch.size
  have X3 : Hid (X < w3.heap.size) := Nat.lt_of_lt_of_le XA.out D3.out.tch.size
  clear c0 c1 x0 x1 x2 x3 x4 x5
  go_wp2_with fail
  go_region_held3 (fun w' => w'.cell? ⟨pb, 1, none⟩ = some (.pointer (some ⟨rb, 0, none⟩)) ∧ w'.cell? ⟨X, 2, none⟩ = some (.int .i64 ai)) (first | exact ⟨d1, y2⟩ | go_keep | exact ⟨(World.cell?_of_block (hr4.block pb (by exact PB3.out) PR.out.1 PR.out.2.1 PR.out.2.2)).trans d1, (World.cell?_of_block (hr4.block X (by exact X3.out) XR.out.1 XR.out.2.1 XR.out.2.2)).trans y2⟩) ((go_at_call 32; refine (HR.out _ (R3.out.drew _)).mono ?_; rintro e w4 ⟨rfl, sv', tv', hr4⟩))
  have ST := hide (stp_dr BA.out AG1.out P1.out D3.out (hr4.ofDrew))
  clear hr4 d1 y2
  go_wp2_with fail
  refine (num9_any ev _).mono ?_
  rintro e w9 ⟨rfl, rfl⟩
  go_wp2
  go_ret
  exact ⟨rfl, ST.out⟩

set_option maxHeartbeats 8000000 in
set_option maxRecDepth 100000 in
theorem plays_5 (w : World) (ro : Nat → Nat) (o pb b rb : Nat) (pv sv tv rv : Value) (S T R : List Int) (E0 : Nat) (h : Par w ro o pb b rb pv sv tv rv S T R E0) (sc : Bool) (ai xi ti : Int) (da : Option Addr) (dn dc : Nat) (ev : Int) (S' T' : List Int)
    (hd : ∀ w0, Dsk 0 w0 b pv (S ++ T) S.length E0 → Calls Try.prog 23 #[.pointer (some ⟨b, 0, none⟩), .int .i64 ai, .int .i64 xi] w0 fun r w' => r = .returned (.int .i64 ev) ∧ ∃ pv', Dst 0 w0 w' b pv pv' (S' ++ T') S'.length E0)
    (hr : ∀ w0, RDk w0 rb sv tv S T E0 → Calls Try.prog 33 #[.pointer (some ⟨rb, 0, none⟩), .int .i64 ai, .int .i64 xi] w0 fun r w' => r = .returned (.int .i64 ev) ∧ ∃ sv' tv', RDst w0 w' rb sv tv sv' tv' S' T' E0) :
    Calls Try.prog 15 #[.pointer (some ⟨pb, 0, none⟩), .agg #[.int .i64 5, .bool sc, .int .i64 ai, .int .i64 xi, .int .i64 ti, .slice da dn dc]] w fun r w' => r = .returned (.bool true) ∧ Stp9 w w' ro o pb E0 := by
  have HD := hide hd
  have HR := hide hr
  clear hd hr
  obtain ⟨OB, hOB⟩ : ∃ OB, OB = Obj.cells #[.int .i64 5, .bool sc, .int .i64 ai, .int .i64 xi, .int .i64 ti, .slice da dn dc] 33 := ⟨_, rfl⟩
  obtain ⟨ro1, hro1⟩ : ∃ ro1 : Nat → Nat, ro1 = fun k => if k < w.heap.size then ro k else 0 := ⟨_, rfl⟩
  have AG1 : Hid (∀ k, k < w.heap.size → ro1 k = ro k) := fun k hk => by rw [hro1]; exact if_pos hk
  have RX1 : Hid (ro1 w.heap.size = 0) := by rw [hro1]; exact if_neg (Nat.lt_irrefl _)
  obtain ⟨wA, hwA⟩ : ∃ wA, wA = w.alloc OB := ⟨_, rfl⟩
  have hA : Below w.heap.size w wA := by rw [hwA]; exact (Below.refl _ _).alloc (Nat.le_refl _) _
  have P1 := hide ((h.rerole AG1.out).later hA)
  have BA := hide hA
  have BOXA : Blk wA w.heap.size [.int .i64 5, .bool sc, .int .i64 ai, .int .i64 xi, .int .i64 ti, .slice da dn dc] := by rw [hwA, hOB]; exact blk_new w _ [.int .i64 5, .bool sc, .int .i64 ai, .int .i64 xi, .int .i64 ti, .slice da dn dc]
  have HOB := hide hOB
  have HWA := hide hwA
  obtain ⟨X, hX⟩ : ∃ X, X = w.heap.size := ⟨_, rfl⟩
  have HX := hide hX
  rw [← hX] at BOXA RX1
  have x0 := BOXA.cell 0 _ rfl
  have x1 := BOXA.cell 1 _ rfl
  have x2 := BOXA.cell 2 _ rfl
  have x3 := BOXA.cell 3 _ rfl
  have x4 := BOXA.cell 4 _ rfl
  have x5 := BOXA.cell 5 _ rfl
  have XA : Hid (X < wA.heap.size) := BOXA.lt
  have c0 := P1.out.box.cell 0 _ rfl
  have c1 := P1.out.box.cell 1 _ rfl
  have PBA : Hid (pb < wA.heap.size) := P1.out.box.lt
  have PD : Hid (pb ≠ b ∧ some pb ≠ pv.ownBlock) := P1.out.dfree (by have := P1.out.q1; omega)
  have PR : Hid (pb ≠ rb ∧ sv.ownBlock ≠ some pb ∧ tv.ownBlock ≠ some pb) := P1.out.rfree (by have := P1.out.q1; omega)
  have XD : Hid (X ≠ b ∧ some X ≠ pv.ownBlock) := P1.out.dfree (by have := RX1.out; omega)
  have XR : Hid (X ≠ rb ∧ sv.ownBlock ≠ some X ∧ tv.ownBlock ≠ some X) := P1.out.rfree (by have := RX1.out; omega)
  clear hA h hwA hX BOXA hro1 hOB
  go_enter Try.func15, Try.ntmps15
  go_wp2_with fail
  rw [← HX.out, ← HOB.out, ← HWA.out]
  go_region_held3 (fun w' => w'.cell? ⟨pb, 0, none⟩ = some (.pointer (some ⟨b, 0, none⟩)) ∧ w'.cell? ⟨X, 2, none⟩ = some (.int .i64 ai) ∧ w'.cell? ⟨X, 3, none⟩ = some (.int .i64 xi)) (first | exact ⟨c0, x2, x3⟩ | go_keep | exact ⟨(World.cell?_of_block (hd3.tch.block pb (by exact PBA.out) PD.out.1 PD.out.2)).trans c0, (World.cell?_of_block (hd3.tch.block X (by exact XA.out) XD.out.1 XD.out.2)).trans x2, (World.cell?_of_block (hd3.tch.block X (by exact XA.out) XD.out.1 XD.out.2)).trans x3⟩) ((go_at_call 23; refine (HD.out _ (P1.out.d.later (below_drewN' (Below.refl _ _) _))).mono ?_; rintro e w3 ⟨rfl, pv', hd3⟩))
  have D3 : Hid (Dst 0 wA w3 b pv pv' (S' ++ T') S'.length E0) := ⟨hd3.dsk, ⟨hd3.tch.os, hd3.tch.tape, hd3.tch.output, hd3.tch.size, hd3.tch.block⟩, hd3.lat⟩
  clear hd3
  have R3 : Hid (RDk w3 rb sv tv S T E0) := by
    refine P1.out.r.on ?_ (fun j hj => ?_) (fun j hj => ?_)
    · obtain ⟨r1, r2⟩ := P1.out.dfree (k := rb) (by have := P1.out.q3 rb (.inl rfl); omega)
      exact D3.out.tch.block _ P1.out.r.box.lt r1 r2
    · obtain ⟨r1, r2⟩ := P1.out.dfree (k := j) (by have := P1.out.q3 j (.inr (.inl hj)); omega)
      exact D3.out.tch.block _ (P1.out.r.so.lt j hj).2 r1 r2
    · obtain ⟨r1, r2⟩ := P1.out.dfree (k := j) (by have := P1.out.q3 j (.inr (.inr hj)); omega)
      exact D3.out.tch.block _ (P1.out.r.to.lt j hj).2 r1 r2
  have d1 : w3.cell? ⟨pb, 1, none⟩ = some (.pointer (some ⟨rb, 0, none⟩)) := (World.cell?_of_block (D3.out.tch.block pb PBA.out PD.out.1 PD.out.2)).trans c1
  have y2 : w3.cell? ⟨X, 2, none⟩ = some (.int .i64 ai) := (World.cell?_of_block (D3.out.tch.block X XA.out XD.out.1 XD.out.2)).trans x2
  have y3 : w3.cell? ⟨X, 3, none⟩ = some (.int .i64 xi) := (World.cell?_of_block (D3.out.tch.block X XA.out XD.out.1 XD.out.2)).trans x3
  have PB3 : Hid (pb < w3.heap.size) := Nat.lt_of_lt_of_le PBA.out D3.out.tch.size
  have X3 : Hid (X < w3.heap.size) := Nat.lt_of_lt_of_le XA.out D3.out.tch.size
  clear c0 c1 x0 x1 x2 x3 x4 x5
  go_wp2_with fail
  go_region_held3 (fun w' => w'.cell? ⟨pb, 1, none⟩ = some (.pointer (some ⟨rb, 0, none⟩)) ∧ w'.cell? ⟨X, 2, none⟩ = some (.int .i64 ai) ∧ w'.cell? ⟨X, 3, none⟩ = some (.int .i64 xi)) (first | exact ⟨d1, y2, y3⟩ | go_keep | exact ⟨(World.cell?_of_block (hr4.block pb (by exact PB3.out) PR.out.1 PR.out.2.1 PR.out.2.2)).trans d1, (World.cell?_of_block (hr4.block X (by exact X3.out) XR.out.1 XR.out.2.1 XR.out.2.2)).trans y2, (World.cell?_of_block (hr4.block X (by exact X3.out) XR.out.1 XR.out.2.1 XR.out.2.2)).trans y3⟩) ((go_at_call 33; refine (HR.out _ (R3.out.drew _)).mono ?_; rintro e w4 ⟨rfl, sv', tv', hr4⟩))
  have ST := hide (stp_dr BA.out AG1.out P1.out D3.out (hr4.ofDrew))
  clear hr4 d1 y2 y3
  go_wp2_with fail
  refine (num9_any ev _).mono ?_
  rintro e w9 ⟨rfl, rfl⟩
  go_wp2
  go_ret
  exact ⟨rfl, ST.out⟩

set_option maxHeartbeats 8000000 in
set_option maxRecDepth 100000 in
theorem plays_2 (w : World) (ro : Nat → Nat) (o pb b rb : Nat) (pv sv tv rv : Value) (S T R : List Int) (E0 : Nat) (h : Par w ro o pb b rb pv sv tv rv S T R E0) (sc : Bool) (ai xi ti : Int) (da : Option Addr) (dn dc : Nat) :
    Calls Try.prog 15 #[.pointer (some ⟨pb, 0, none⟩), .agg #[.int .i64 2, .bool sc, .int .i64 ai, .int .i64 xi, .int .i64 ti, .slice da dn dc]] w fun r w' => r = .returned (.bool true) ∧ Stp9 w w' ro o pb E0 := by
  obtain ⟨OB, hOB⟩ : ∃ OB, OB = Obj.cells #[.int .i64 2, .bool sc, .int .i64 ai, .int .i64 xi, .int .i64 ti, .slice da dn dc] 33 := ⟨_, rfl⟩
  obtain ⟨ro1, hro1⟩ : ∃ ro1 : Nat → Nat, ro1 = fun k => if k < w.heap.size then ro k else 0 := ⟨_, rfl⟩
  have AG1 : Hid (∀ k, k < w.heap.size → ro1 k = ro k) := fun k hk => by rw [hro1]; exact if_pos hk
  have RX1 : Hid (ro1 w.heap.size = 0) := by rw [hro1]; exact if_neg (Nat.lt_irrefl _)
  obtain ⟨wA, hwA⟩ : ∃ wA, wA = w.alloc OB := ⟨_, rfl⟩
  have hA : Below w.heap.size w wA := by rw [hwA]; exact (Below.refl _ _).alloc (Nat.le_refl _) _
  have P1 := hide ((h.rerole AG1.out).later hA)
  have BA := hide hA
  have BOXA : Blk wA w.heap.size [.int .i64 2, .bool sc, .int .i64 ai, .int .i64 xi, .int .i64 ti, .slice da dn dc] := by rw [hwA, hOB]; exact blk_new w _ [.int .i64 2, .bool sc, .int .i64 ai, .int .i64 xi, .int .i64 ti, .slice da dn dc]
  have HOB := hide hOB
  have HWA := hide hwA
  obtain ⟨X, hX⟩ : ∃ X, X = w.heap.size := ⟨_, rfl⟩
  have HX := hide hX
  rw [← hX] at BOXA RX1
  have x0 := BOXA.cell 0 _ rfl
  have x1 := BOXA.cell 1 _ rfl
  have x2 := BOXA.cell 2 _ rfl
  have x3 := BOXA.cell 3 _ rfl
  have x4 := BOXA.cell 4 _ rfl
  have x5 := BOXA.cell 5 _ rfl
  have XA : Hid (X < wA.heap.size) := BOXA.lt
  have c0 := P1.out.box.cell 0 _ rfl
  have c1 := P1.out.box.cell 1 _ rfl
  have PBA : Hid (pb < wA.heap.size) := P1.out.box.lt
  have PD : Hid (pb ≠ b ∧ some pb ≠ pv.ownBlock) := P1.out.dfree (by have := P1.out.q1; omega)
  have PR : Hid (pb ≠ rb ∧ sv.ownBlock ≠ some pb ∧ tv.ownBlock ≠ some pb) := P1.out.rfree (by have := P1.out.q1; omega)
  have XD : Hid (X ≠ b ∧ some X ≠ pv.ownBlock) := P1.out.dfree (by have := RX1.out; omega)
  have XR : Hid (X ≠ rb ∧ sv.ownBlock ≠ some X ∧ tv.ownBlock ≠ some X) := P1.out.rfree (by have := RX1.out; omega)
  have b0 : (w.alloc (Obj.cells #[.int .i64 2, .bool sc, .int .i64 ai, .int .i64 xi, .int .i64 ti, .slice da dn dc] 33)).cell? ⟨pb, 0, none⟩ = some (.pointer (some ⟨b, 0, none⟩)) := by rw [← hOB, ← hwA]; exact c0
  clear hA h hwA hX BOXA hro1 hOB
  go_enter Try.func15, Try.ntmps15
  go_wp2_with fail
  rw [← HX.out, ← HOB.out, ← HWA.out]
  clear b0
  refine (sync_any _ b pv (S ++ T) S.length E0 P1.out.d).mono ?_
  rintro e w3 ⟨rfl, hd3⟩
  have D3 : Hid (Dst 0 wA w3 b pv pv ((S ++ T) ++ []) (S ++ T).length E0) := by rw [List.append_nil]; exact hd3
  clear hd3
  have R3 : Hid (RDk w3 rb sv tv S T E0) := by
    refine P1.out.r.on ?_ (fun j hj => ?_) (fun j hj => ?_)
    · obtain ⟨r1, r2⟩ := P1.out.dfree (k := rb) (by have := P1.out.q3 rb (.inl rfl); omega)
      exact D3.out.tch.block _ P1.out.r.box.lt r1 r2
    · obtain ⟨r1, r2⟩ := P1.out.dfree (k := j) (by have := P1.out.q3 j (.inr (.inl hj)); omega)
      exact D3.out.tch.block _ (P1.out.r.so.lt j hj).2 r1 r2
    · obtain ⟨r1, r2⟩ := P1.out.dfree (k := j) (by have := P1.out.q3 j (.inr (.inr hj)); omega)
      exact D3.out.tch.block _ (P1.out.r.to.lt j hj).2 r1 r2
  have d1 : w3.cell? ⟨pb, 1, none⟩ = some (.pointer (some ⟨rb, 0, none⟩)) := (World.cell?_of_block (D3.out.tch.block pb PBA.out PD.out.1 PD.out.2)).trans c1
  clear c0 c1 x0 x1 x2 x3 x4 x5
  go_wp2_with fail
  refine (rsync_any _ rb sv tv S T E0 R3.out).mono ?_
  rintro e w4 ⟨rfl, sv', hr4⟩
  have ST := hide (stp_dr BA.out AG1.out P1.out D3.out hr4)
  clear hr4 d1
  go_wp2_with fail
  refine (num9_any 0 _).mono ?_
  rintro e w9 ⟨rfl, rfl⟩
  go_wp2
  go_ret
  exact ⟨rfl, ST.out⟩

set_option maxHeartbeats 8000000 in
set_option maxRecDepth 100000 in
theorem plays_6 (w : World) (ro : Nat → Nat) (o pb b rb : Nat) (pv sv tv rv : Value) (S T R : List Int) (E0 : Nat) (h : Par w ro o pb b rb pv sv tv rv S T R E0) (sc : Bool) (ai xi ti : Int) (da : Option Addr) (dn dc : Nat) :
    Calls Try.prog 15 #[.pointer (some ⟨pb, 0, none⟩), .agg #[.int .i64 6, .bool sc, .int .i64 ai, .int .i64 xi, .int .i64 ti, .slice da dn dc]] w fun r w' => r = .returned (.bool true) ∧ Stp9 w w' ro o pb E0 := by
  obtain ⟨OB, hOB⟩ : ∃ OB, OB = Obj.cells #[.int .i64 6, .bool sc, .int .i64 ai, .int .i64 xi, .int .i64 ti, .slice da dn dc] 33 := ⟨_, rfl⟩
  obtain ⟨ro1, hro1⟩ : ∃ ro1 : Nat → Nat, ro1 = fun k => if k < w.heap.size then ro k else 0 := ⟨_, rfl⟩
  have AG1 : Hid (∀ k, k < w.heap.size → ro1 k = ro k) := fun k hk => by rw [hro1]; exact if_pos hk
  have RX1 : Hid (ro1 w.heap.size = 0) := by rw [hro1]; exact if_neg (Nat.lt_irrefl _)
  obtain ⟨wA, hwA⟩ : ∃ wA, wA = w.alloc OB := ⟨_, rfl⟩
  have hA : Below w.heap.size w wA := by rw [hwA]; exact (Below.refl _ _).alloc (Nat.le_refl _) _
  have P1 := hide ((h.rerole AG1.out).later hA)
  have BA := hide hA
  have BOXA : Blk wA w.heap.size [.int .i64 6, .bool sc, .int .i64 ai, .int .i64 xi, .int .i64 ti, .slice da dn dc] := by rw [hwA, hOB]; exact blk_new w _ [.int .i64 6, .bool sc, .int .i64 ai, .int .i64 xi, .int .i64 ti, .slice da dn dc]
  have HOB := hide hOB
  have HWA := hide hwA
  obtain ⟨X, hX⟩ : ∃ X, X = w.heap.size := ⟨_, rfl⟩
  have HX := hide hX
  rw [← hX] at BOXA RX1
  have x0 := BOXA.cell 0 _ rfl
  have x1 := BOXA.cell 1 _ rfl
  have x2 := BOXA.cell 2 _ rfl
  have x3 := BOXA.cell 3 _ rfl
  have x4 := BOXA.cell 4 _ rfl
  have x5 := BOXA.cell 5 _ rfl
  have XA : Hid (X < wA.heap.size) := BOXA.lt
  have c0 := P1.out.box.cell 0 _ rfl
  have c1 := P1.out.box.cell 1 _ rfl
  have PBA : Hid (pb < wA.heap.size) := P1.out.box.lt
  have PD : Hid (pb ≠ b ∧ some pb ≠ pv.ownBlock) := P1.out.dfree (by have := P1.out.q1; omega)
  have PR : Hid (pb ≠ rb ∧ sv.ownBlock ≠ some pb ∧ tv.ownBlock ≠ some pb) := P1.out.rfree (by have := P1.out.q1; omega)
  have XD : Hid (X ≠ b ∧ some X ≠ pv.ownBlock) := P1.out.dfree (by have := RX1.out; omega)
  have XR : Hid (X ≠ rb ∧ sv.ownBlock ≠ some X ∧ tv.ownBlock ≠ some X) := P1.out.rfree (by have := RX1.out; omega)
  clear hA h hwA hX BOXA hro1 hOB
  go_enter Try.func15, Try.ntmps15
  go_wp2_with fail
  rw [← HX.out, ← HOB.out, ← HWA.out]
  refine (looks_any _ ro1 o pb b rb pv sv tv rv S T R E0 P1.out).mono ?_
  rintro e w3 ⟨rfl, hb3⟩
  have ST := hide ((Stp9.ofBelow P1.out hb3).after BA.out AG1.out)
  clear hb3 c0 c1 x0 x1 x2 x3 x4 x5
  go_wp2
  go_ret
  exact ⟨rfl, ST.out⟩

set_option maxHeartbeats 8000000 in
set_option maxRecDepth 100000 in
theorem plays_1 (w : World) (ro : Nat → Nat) (o pb b rb : Nat) (pv sv tv rv : Value) (S T R : List Int) (E0 : Nat) (h : Par w ro o pb b rb pv sv tv rv S T R E0) (sc : Bool) (ai xi ti : Int) (da : Option Addr) (dn dc : Nat)
    (hc : ∀ w0 ro0, Below w.heap.size w w0 → (∀ k, k < w.heap.size → ro0 k = ro k) → Par w0 ro0 o pb b rb pv sv tv rv S T R E0 → Calls Try.prog 29 #[.pointer (some ⟨pb, 0, none⟩), .agg #[.int .i64 1, .bool sc, .int .i64 ai, .int .i64 xi, .int .i64 ti, .slice da dn dc]] w0 fun r w' => r = .returned (.bool true) ∧ Stp9 w0 w' ro0 o pb E0) :
    Calls Try.prog 15 #[.pointer (some ⟨pb, 0, none⟩), .agg #[.int .i64 1, .bool sc, .int .i64 ai, .int .i64 xi, .int .i64 ti, .slice da dn dc]] w fun r w' => r = .returned (.bool true) ∧ Stp9 w w' ro o pb E0 := by
  have HC := hide hc
  clear hc
  obtain ⟨OB, hOB⟩ : ∃ OB, OB = Obj.cells #[.int .i64 1, .bool sc, .int .i64 ai, .int .i64 xi, .int .i64 ti, .slice da dn dc] 33 := ⟨_, rfl⟩
  obtain ⟨ro1, hro1⟩ : ∃ ro1 : Nat → Nat, ro1 = fun k => if k < w.heap.size then ro k else 0 := ⟨_, rfl⟩
  have AG1 : Hid (∀ k, k < w.heap.size → ro1 k = ro k) := fun k hk => by rw [hro1]; exact if_pos hk
  have RX1 : Hid (ro1 w.heap.size = 0) := by rw [hro1]; exact if_neg (Nat.lt_irrefl _)
  obtain ⟨wA, hwA⟩ : ∃ wA, wA = w.alloc OB := ⟨_, rfl⟩
  have hA : Below w.heap.size w wA := by rw [hwA]; exact (Below.refl _ _).alloc (Nat.le_refl _) _
  have P1 := hide ((h.rerole AG1.out).later hA)
  have BA := hide hA
  have BOXA : Blk wA w.heap.size [.int .i64 1, .bool sc, .int .i64 ai, .int .i64 xi, .int .i64 ti, .slice da dn dc] := by rw [hwA, hOB]; exact blk_new w _ [.int .i64 1, .bool sc, .int .i64 ai, .int .i64 xi, .int .i64 ti, .slice da dn dc]
  have HOB := hide hOB
  have HWA := hide hwA
  obtain ⟨X, hX⟩ : ∃ X, X = w.heap.size := ⟨_, rfl⟩
  have HX := hide hX
  rw [← hX] at BOXA RX1
  have x0 := BOXA.cell 0 _ rfl
  have x1 := BOXA.cell 1 _ rfl
  have x2 := BOXA.cell 2 _ rfl
  have x3 := BOXA.cell 3 _ rfl
  have x4 := BOXA.cell 4 _ rfl
  have x5 := BOXA.cell 5 _ rfl
  have XA : Hid (X < wA.heap.size) := BOXA.lt
  have c0 := P1.out.box.cell 0 _ rfl
  have c1 := P1.out.box.cell 1 _ rfl
  have PBA : Hid (pb < wA.heap.size) := P1.out.box.lt
  have PD : Hid (pb ≠ b ∧ some pb ≠ pv.ownBlock) := P1.out.dfree (by have := P1.out.q1; omega)
  have PR : Hid (pb ≠ rb ∧ sv.ownBlock ≠ some pb ∧ tv.ownBlock ≠ some pb) := P1.out.rfree (by have := P1.out.q1; omega)
  have XD : Hid (X ≠ b ∧ some X ≠ pv.ownBlock) := P1.out.dfree (by have := RX1.out; omega)
  have XR : Hid (X ≠ rb ∧ sv.ownBlock ≠ some X ∧ tv.ownBlock ≠ some X) := P1.out.rfree (by have := RX1.out; omega)
  clear hA h hwA hX BOXA hro1 hOB
  go_enter Try.func15, Try.ntmps15
  go_wp2_with fail
  rw [← HX.out, ← HOB.out, ← HWA.out]
  refine (HC.out _ ro1 BA.out AG1.out P1.out).mono ?_
  rintro e w3 ⟨rfl, hs3⟩
  have ST := hide (hs3.after BA.out AG1.out)
  clear hs3 c0 c1 x0 x1 x2 x3 x4 x5
  go_wp2
  go_ret
  exact ⟨rfl, ST.out⟩

set_option maxHeartbeats 8000000 in
set_option maxRecDepth 100000 in
theorem plays_7 (w : World) (ro : Nat → Nat) (o pb b rb : Nat) (pv sv tv rv : Value) (S T R : List Int) (E0 : Nat) (h : Par w ro o pb b rb pv sv tv rv S T R E0) (sc : Bool) (ai xi ti : Int) (da : Option Addr) (dn dc : Nat)
    (hc : ∀ w0 ro0, Below w.heap.size w w0 → (∀ k, k < w.heap.size → ro0 k = ro k) → Par w0 ro0 o pb b rb pv sv tv rv S T R E0 → Calls Try.prog 35 #[.pointer (some ⟨pb, 0, none⟩), .agg #[.int .i64 7, .bool sc, .int .i64 ai, .int .i64 xi, .int .i64 ti, .slice da dn dc]] w0 fun r w' => r = .returned (.bool true) ∧ Stp9 w0 w' ro0 o pb E0) :
    Calls Try.prog 15 #[.pointer (some ⟨pb, 0, none⟩), .agg #[.int .i64 7, .bool sc, .int .i64 ai, .int .i64 xi, .int .i64 ti, .slice da dn dc]] w fun r w' => r = .returned (.bool true) ∧ Stp9 w w' ro o pb E0 := by
  have HC := hide hc
  clear hc
  obtain ⟨OB, hOB⟩ : ∃ OB, OB = Obj.cells #[.int .i64 7, .bool sc, .int .i64 ai, .int .i64 xi, .int .i64 ti, .slice da dn dc] 33 := ⟨_, rfl⟩
  obtain ⟨ro1, hro1⟩ : ∃ ro1 : Nat → Nat, ro1 = fun k => if k < w.heap.size then ro k else 0 := ⟨_, rfl⟩
  have AG1 : Hid (∀ k, k < w.heap.size → ro1 k = ro k) := fun k hk => by rw [hro1]; exact if_pos hk
  have RX1 : Hid (ro1 w.heap.size = 0) := by rw [hro1]; exact if_neg (Nat.lt_irrefl _)
  obtain ⟨wA, hwA⟩ : ∃ wA, wA = w.alloc OB := ⟨_, rfl⟩
  have hA : Below w.heap.size w wA := by rw [hwA]; exact (Below.refl _ _).alloc (Nat.le_refl _) _
  have P1 := hide ((h.rerole AG1.out).later hA)
  have BA := hide hA
  have BOXA : Blk wA w.heap.size [.int .i64 7, .bool sc, .int .i64 ai, .int .i64 xi, .int .i64 ti, .slice da dn dc] := by rw [hwA, hOB]; exact blk_new w _ [.int .i64 7, .bool sc, .int .i64 ai, .int .i64 xi, .int .i64 ti, .slice da dn dc]
  have HOB := hide hOB
  have HWA := hide hwA
  obtain ⟨X, hX⟩ : ∃ X, X = w.heap.size := ⟨_, rfl⟩
  have HX := hide hX
  rw [← hX] at BOXA RX1
  have x0 := BOXA.cell 0 _ rfl
  have x1 := BOXA.cell 1 _ rfl
  have x2 := BOXA.cell 2 _ rfl
  have x3 := BOXA.cell 3 _ rfl
  have x4 := BOXA.cell 4 _ rfl
  have x5 := BOXA.cell 5 _ rfl
  have XA : Hid (X < wA.heap.size) := BOXA.lt
  have c0 := P1.out.box.cell 0 _ rfl
  have c1 := P1.out.box.cell 1 _ rfl
  have PBA : Hid (pb < wA.heap.size) := P1.out.box.lt
  have PD : Hid (pb ≠ b ∧ some pb ≠ pv.ownBlock) := P1.out.dfree (by have := P1.out.q1; omega)
  have PR : Hid (pb ≠ rb ∧ sv.ownBlock ≠ some pb ∧ tv.ownBlock ≠ some pb) := P1.out.rfree (by have := P1.out.q1; omega)
  have XD : Hid (X ≠ b ∧ some X ≠ pv.ownBlock) := P1.out.dfree (by have := RX1.out; omega)
  have XR : Hid (X ≠ rb ∧ sv.ownBlock ≠ some X ∧ tv.ownBlock ≠ some X) := P1.out.rfree (by have := RX1.out; omega)
  clear hA h hwA hX BOXA hro1 hOB
  go_enter Try.func15, Try.ntmps15
  go_wp2_with fail
  rw [← HX.out, ← HOB.out, ← HWA.out]
  refine (HC.out _ ro1 BA.out AG1.out P1.out).mono ?_
  rintro e w3 ⟨rfl, hs3⟩
  have ST := hide (hs3.after BA.out AG1.out)
  clear hs3 c0 c1 x0 x1 x2 x3 x4 x5
  go_wp2
  go_ret
  exact ⟨rfl, ST.out⟩

set_option maxHeartbeats 8000000 in
set_option maxRecDepth 100000 in
theorem plays_0 (w : World) (ro : Nat → Nat) (o pb b rb : Nat) (pv sv tv rv : Value) (S T R : List Int) (E0 : Nat) (h : Par w ro o pb b rb pv sv tv rv S T R E0) (kd : Int) (sc : Bool) (ai xi ti : Int) (da : Option Addr) (dn dc : Nat) (k1 : ¬ kd = 1) (k2 : ¬ kd = 2) (k3 : ¬ kd = 3) (k4 : ¬ kd = 4) (k5 : ¬ kd = 5) (k6 : ¬ kd = 6) (k7 : ¬ kd = 7) :
    Calls Try.prog 15 #[.pointer (some ⟨pb, 0, none⟩), .agg #[.int .i64 kd, .bool sc, .int .i64 ai, .int .i64 xi, .int .i64 ti, .slice da dn dc]] w fun r w' => r = .returned (.bool true) ∧ Stp9 w w' ro o pb E0 := by
  obtain ⟨OB, hOB⟩ : ∃ OB, OB = Obj.cells #[.int .i64 kd, .bool sc, .int .i64 ai, .int .i64 xi, .int .i64 ti, .slice da dn dc] 33 := ⟨_, rfl⟩
  obtain ⟨ro1, hro1⟩ : ∃ ro1 : Nat → Nat, ro1 = fun k => if k < w.heap.size then ro k else 0 := ⟨_, rfl⟩
  have AG1 : Hid (∀ k, k < w.heap.size → ro1 k = ro k) := fun k hk => by rw [hro1]; exact if_pos hk
  have RX1 : Hid (ro1 w.heap.size = 0) := by rw [hro1]; exact if_neg (Nat.lt_irrefl _)
  obtain ⟨wA, hwA⟩ : ∃ wA, wA = w.alloc OB := ⟨_, rfl⟩
  have hA : Below w.heap.size w wA := by rw [hwA]; exact (Below.refl _ _).alloc (Nat.le_refl _) _
  have P1 := hide ((h.rerole AG1.out).later hA)
  have BA := hide hA
  have BOXA : Blk wA w.heap.size [.int .i64 kd, .bool sc, .int .i64 ai, .int .i64 xi, .int .i64 ti, .slice da dn dc] := by rw [hwA, hOB]; exact blk_new w _ [.int .i64 kd, .bool sc, .int .i64 ai, .int .i64 xi, .int .i64 ti, .slice da dn dc]
  have HOB := hide hOB
  have HWA := hide hwA
  obtain ⟨X, hX⟩ : ∃ X, X = w.heap.size := ⟨_, rfl⟩
  have HX := hide hX
  rw [← hX] at BOXA RX1
  have x0 := BOXA.cell 0 _ rfl
  have x1 := BOXA.cell 1 _ rfl
  have x2 := BOXA.cell 2 _ rfl
  have x3 := BOXA.cell 3 _ rfl
  have x4 := BOXA.cell 4 _ rfl
  have x5 := BOXA.cell 5 _ rfl
  have XA : Hid (X < wA.heap.size) := BOXA.lt
  have c0 := P1.out.box.cell 0 _ rfl
  have c1 := P1.out.box.cell 1 _ rfl
  have PBA : Hid (pb < wA.heap.size) := P1.out.box.lt
  have PD : Hid (pb ≠ b ∧ some pb ≠ pv.ownBlock) := P1.out.dfree (by have := P1.out.q1; omega)
  have PR : Hid (pb ≠ rb ∧ sv.ownBlock ≠ some pb ∧ tv.ownBlock ≠ some pb) := P1.out.rfree (by have := P1.out.q1; omega)
  have XD : Hid (X ≠ b ∧ some X ≠ pv.ownBlock) := P1.out.dfree (by have := RX1.out; omega)
  have XR : Hid (X ≠ rb ∧ sv.ownBlock ≠ some X ∧ tv.ownBlock ≠ some X) := P1.out.rfree (by have := RX1.out; omega)
  clear hA h hwA hX BOXA hro1 hOB
  go_enter Try.func15, Try.ntmps15
  go_wp2_with fail
  rw [← HX.out, ← HOB.out, ← HWA.out]
  refine (num9_any 0 _).mono ?_
  rintro e w9 ⟨rfl, rfl⟩
  have ST := hide ((Stp9.ofBelow P1.out (Below.refl _ _)).after BA.out AG1.out)
  clear c0 c1 x0 x1 x2 x3 x4 x5
  go_wp2
  go_ret
  exact ⟨rfl, ST.out⟩
end Go.Proofs.Ytahpnfbjpdnapaa
