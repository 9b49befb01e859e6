/- Proved: for every two commands CommandConflicts answers true: Conflict is what the document says. No condition. -/
import Derived.Test.YtahaecnopeffhaaTRConf
import Derived.Test.YtahaecnopeffhaaTLaw
import Derived.Test.YtahaecnopeffhaaCArgs
namespace Go.Proofs.Ytahaecnopeffhaa
namespace commandConflicts
open Go.ChangeShapes Go.WideShapes Go.ChangeAt Go.RowKit Go.Wire1

theorem kl : clashB (touchL 2 ⟨#[107]⟩ ⟨#[]⟩) (touchL 2 ⟨#[108]⟩ ⟨#[]⟩) = false := by
  have h : ∀ x y : Tch, hitB x y = ((x.w || y.w) && meetB x y) := fun _ _ => rfl
  rw [show touchL 2 ⟨#[107]⟩ ⟨#[]⟩ = [⟨⟨#[107]⟩, tnext ⟨#[107]⟩, true⟩] from rfl, show touchL 2 ⟨#[108]⟩ ⟨#[]⟩ = [⟨⟨#[108]⟩, tnext ⟨#[108]⟩, true⟩] from rfl]
  rw [Bool.eq_false_iff]
  intro e
  obtain ⟨x, hx, y, hy, _, hm⟩ := clash_iff.1 e
  simp only [List.mem_singleton] at hx hy
  subst hx hy
  rw [meet_ref (tnext_lt _) (tnext_lt _)] at hm
  have : (inB ⟨#[107]⟩ ⟨⟨#[108]⟩, tnext ⟨#[108]⟩, true⟩ || inB ⟨#[108]⟩ ⟨⟨#[107]⟩, tnext ⟨#[107]⟩, true⟩) = false := by decide +kernel
  rw [this] at hm
  cases hm

set_option maxHeartbeats 2000000 in
set_option maxRecDepth 100000 in
theorem walk (kind client req : Int) (key key2 val old : ByteArray) (n : Int) (kind' client' req' : Int) (key' key2' val' old' : ByteArray) (n' : Int) (w : World) (hk : key.size ≤ 140737488351232) (hk2 : key2.size ≤ 140737488351232) (hk' : key'.size ≤ 140737488351232) (hk2' : key2'.size ≤ 140737488351232) :
    Calls Try.prog 6 #[.agg #[.int .i64 kind, .int .i64 client, .int .i64 req, .string key, .string key2, .string val, .string old, .int .i64 n], .agg #[.int .i64 kind', .int .i64 client', .int .i64 req', .string key', .string key2', .string val', .string old', .int .i64 n']] w fun e w' => e = .returned (.bool true) ∧ Below w.heap.size w w' := by
  obtain ⟨V, hV⟩ : ∃ V, V = (w.alloc (.cells #[.int .i64 kind, .int .i64 client, .int .i64 req, .string key, .string key2, .string val, .string old, .int .i64 n] 23)).alloc (.cells #[.int .i64 kind', .int .i64 client', .int .i64 req', .string key', .string key2', .string val', .string old', .int .i64 n'] 23) := ⟨_, rfl⟩
  have X : Hid (CBox V w.heap.size kind client req key key2 val old n) := by rw [hV]; exact (cbox_new w 23 _ _ _ _ _ _ _ _).below ((Below.refl _ _).alloc (Nat.le_refl _) _) (Nat.le_refl _)
  have Y : Hid (CBox V (w.heap.size + 1) kind' client' req' key' key2' val' old' n') := by
    have := cbox_new (w.alloc (.cells #[.int .i64 kind, .int .i64 client, .int .i64 req, .string key, .string key2, .string val, .string old, .int .i64 n] 23)) 23 kind' client' req' key' key2' val' old' n'
    rw [World.size_alloc] at this
    rw [hV]; exact this
  have hVs : w.heap.size ≤ V.heap.size := by rw [hV]; simp; omega
  have BV : Hid (Below w.heap.size w V) := by rw [hV]; exact ((Below.refl _ _).alloc (Nat.le_refl _) _).alloc (by simp) _
  have small : Hid ((⟨#[107]⟩ : ByteArray).size ≤ 140737488351232) := by show (1 : Nat) ≤ _; omega
  have small' : Hid ((⟨#[108]⟩ : ByteArray).size ≤ 140737488351232) := by show (1 : Nat) ≤ _; omega
  have none' : Hid ((⟨#[]⟩ : ByteArray).size ≤ 140737488351232) := by show (0 : Nat) ≤ _; omega
  go_enter Try.func6, Try.ntmps6
  go_wp2_with fail
  rw [← hV]
  clear hV
  refine (put_any _ _).mono ?_
  rintro e w1 ⟨rfl, hb1⟩
  have B1 : Hid (Below V.heap.size V w1) := hb1
  have s1 : V.heap.size ≤ w1.heap.size := hb1.size
  clear hb1
  go_wp2_with fail
  refine (put_any _ _).mono ?_
  rintro e w2 ⟨rfl, hb2⟩
  have B2 : Hid (Below V.heap.size V w2) := B1.out.trans (hb2.mono s1)
  have s2 : V.heap.size ≤ w2.heap.size := B2.out.size
  clear hb2 B1
  go_wp2_with fail
  refine (conflict_any _ _ _ _ _ _ _ _ _ _ _ _ _ _ _ _ _ small.out none'.out small.out none'.out).mono ?_
  rintro e w3 ⟨rfl, hb3⟩
  have B3 : Hid (Below V.heap.size V w3) := B2.out.trans (hb3.mono s2)
  have s3 : V.heap.size ≤ w3.heap.size := B3.out.size
  clear hb3 B2 s1 s2
  rw [clash_self, decide_eq_true (show (2 : Int) ≤ 2 ∧ (2 : Int) ≤ 7 by omega)]
  go_wp2_with fail
  refine (put_any _ _).mono ?_
  rintro e w4 ⟨rfl, hb4⟩
  have B4 : Hid (Below V.heap.size V w4) := B3.out.trans (hb4.mono s3)
  have s4 : V.heap.size ≤ w4.heap.size := B4.out.size
  clear hb4 B3
  go_wp2_with fail
  refine (put_any _ _).mono ?_
  rintro e w5 ⟨rfl, hb5⟩
  have B5 : Hid (Below V.heap.size V w5) := B4.out.trans (hb5.mono s4)
  have s5 : V.heap.size ≤ w5.heap.size := B5.out.size
  clear hb5 B4
  go_wp2_with fail
  refine (conflict_any _ _ _ _ _ _ _ _ _ _ _ _ _ _ _ _ _ small.out none'.out small'.out none'.out).mono ?_
  rintro e w6 ⟨rfl, hb6⟩
  have B6 : Hid (Below V.heap.size V w6) := B5.out.trans (hb6.mono s5)
  have s6 : V.heap.size ≤ w6.heap.size := B6.out.size
  clear hb6 B5
  rw [kl]
  obtain ⟨x0, x1, x2, x3, x4, x5, x6, x7⟩ := X.out.below B6.out (Nat.le_refl _)
  obtain ⟨y0, y1, y2, y3, y4, y5, y6, y7⟩ := Y.out.below B6.out (Nat.le_refl _)
  go_wp2_with fail
  refine (conflict_any kind client req key key2 val old n kind' client' req' key' key2' val' old' n' _ hk hk2 hk' hk2').mono ?_
  rintro e w7 ⟨rfl, hb7⟩
  have B7 : Hid (Below V.heap.size V w7) := B6.out.trans (hb7.mono s6)
  have s7 : V.heap.size ≤ w7.heap.size := B7.out.size
  clear hb7 B6 x0 x1 x2 x3 x4 x5 x6 x7 y0 y1 y2 y3 y4 y5 y6 y7
  obtain ⟨x0, x1, x2, x3, x4, x5, x6, x7⟩ := X.out.below B7.out (Nat.le_refl _)
  obtain ⟨y0, y1, y2, y3, y4, y5, y6, y7⟩ := Y.out.below B7.out (Nat.le_refl _)
  go_wp2_with fail
  refine (rconflict_any kind client req key key2 val old n kind' client' req' key' key2' val' old' n' _ hk hk2 hk' hk2').mono ?_
  rintro e w8 ⟨rfl, hb8⟩
  have B8 : Hid (Below V.heap.size V w8) := B7.out.trans (hb8.mono s7)
  clear hb8 B7 x0 x1 x2 x3 x4 x5 x6 x7 y0 y1 y2 y3 y4 y5 y6 y7
  generalize clashB (touchL kind key key2) (touchL kind' key' key2') = c
  have hcc : (c == c) = true := by simp
  go_wp2
  go_ret
  exact ⟨by first | rfl | (show Ending.returned (.bool (c == c)) = _; rw [hcc]), BV.out.trans (B8.out.mono hVs)⟩

set_option maxRecDepth 100000 in
/-- For every argument and every world. -/
theorem contract (H : Type) (enc : TypeId × Value → H) (W : World) (base : Nat) (args : Array Value) (ds gs : List (DataW H)) (before : List MemPlace)
    (hval : ∀ (j : Nat) t v, Try.f6.params[j]? = some t → args[j]? = some v → Value.okWide Try.prog W .any base t v)
    (hW : DataW.Whole enc Try.prog Try.f6.params.toList Rows.commandConflictsSpec.vars false W args.toList ds gs before)
    (hsz : (DataW.weightsEach Try.prog (Try.f6.params.toList ++ Rows.commandConflictsSpec.plain.varTypes Try.prog) (ds ++ gs)).all (· ≤ reachBytes) = true) :
    Calls Try.prog 6 args W fun e W' => ∃ v, e = .returned v ∧ Rows.commandConflictsSpec.post enc Try.prog Try.f6 false true false false W args v W' := by
  have hW' := hW
  obtain ⟨p, q, hA0, hV, rfl, hfz, hnd⟩ := hW
  have hA : DataW.TrodAll enc Try.prog W 0 (fun _ => true) true Try.f6.params.toList args.toList ds p := hA0
  rw [Try.params6] at hA hval hsz
  obtain ⟨v0, vs0, d0, ds0, p0, q0, hargs, rfl, rfl, h0, r0⟩ := trodAll_cons hA
  obtain ⟨v1, vs1, d1, ds1, p1, q1, rfl, rfl, rfl, h1, r1⟩ := trodAll_cons r0
  obtain ⟨rfl, rfl, rfl⟩ := trodAll_nil r1
  obtain rfl : args = #[v0, v1] := by cases args; simp_all
  obtain ⟨rfl, rfl⟩ := trodVars_none hV
  have k0 := h0
  have lt0 : ∀ x ∈ p0, x.block < W.heap.size := by obtain ⟨m, hm⟩ := k0; exact DataW.trod_lt m _ _ _ hm
  obtain ⟨kd0, cl0, rq0, ka0, kb0, va0, ol0, nn0, rfl, hd0, b0⟩ := copen_cmd (hval 0 23 v0 rfl rfl) h0
  have k1 := h1
  have lt1 : ∀ x ∈ p1, x.block < W.heap.size := by obtain ⟨m, hm⟩ := k1; exact DataW.trod_lt m _ _ _ hm
  obtain ⟨kd1, cl1, rq1, ka1, kb1, va1, ol1, nn1, rfl, hd1, b1⟩ := copen_cmd (hval 1 23 v1 rfl rfl) h1
  have sz0 := csized hsz (j := 0) (kind := kd0) (client := cl0) (req := rq0) (key := ka0) (key2 := kb0) (val := va0) (old := ol0) (n := nn0) rfl (by rw [show d0 = _ from hd0]; rfl)
  have sz1 := csized hsz (j := 1) (kind := kd1) (client := cl1) (req := rq1) (key := ka1) (key2 := kb1) (val := va1) (old := ol1) (n := nn1) rfl (by rw [show d1 = _ from hd1]; rfl)
  clear hA0
  refine (walk kd0 cl0 rq0 ka0 kb0 va0 ol0 nn0 kd1 cl1 rq1 ka1 kb1 va1 ol1 nn1 W sz0.1 sz0.2.1 sz1.1 sz1.2.1).mono fun e W' ⟨he, bel⟩ => ?_
  subst he
  exact ⟨_, rfl, _, _, _, [], _, [], hW', trodAll_mk1 (shut_bool Try.underlying4 _), (trodAll_cons_mk (Below.trod claid (by kernel_rfl) (of_decide_eq_true (by kernel_rfl)) k0 bel lt0) (trodAll_cons_mk (Below.trod claid (by kernel_rfl) (of_decide_eq_true (by kernel_rfl)) k1 bel lt1) trodAll_mk0)), rfl, bel.frame _, fun h => by cases h⟩

set_option maxRecDepth 100000 in
theorem lifted (os : Os) (started : os.Started) (H : Type) (enc : TypeId × Value → H) :
    ReturnsInHanded {} Try.checked os 6 .any (Rows.commandConflictsSpec.pre6 enc Try.prog Try.f6 Rows.commandConflictsRow.domain false) (Rows.commandConflictsSpec.post enc Try.prog Try.f6 false true false false) := by
  refine returnsInHanded_of_change_sized (C := Try.checked) cown started (by kernel_rfl) Try.func6
    (ChangeSpec.witness6 (enc := enc) (C := Try.checked) false ⟨#[], #[.agg #[.int .i64 0, .int .i64 0, .int .i64 0, .string ⟨#[]⟩, .string ⟨#[]⟩, .string ⟨#[]⟩, .string ⟨#[]⟩, .int .i64 0], .agg #[.int .i64 0, .int .i64 0, .int .i64 0, .string ⟨#[]⟩, .string ⟨#[]⟩, .string ⟨#[]⟩, .string ⟨#[]⟩, .int .i64 0]], []⟩ 8 (by kernel_rfl) (by kernel_rfl) (by kernel_rfl) (by kernel_rfl)) ?_
  intro W base args ds gs before hval hW _ hsz _
  exact contract H enc W base args ds gs before hval hW hsz

end commandConflicts
theorem commandConflicts_proved : Rows.CommandConflictsSaid :=
  OpenClaim.holds_of_wide 6 Try.f6 rfl rfl rfl rfl rfl rfl rfl ⟨rfl, rfl, rfl, rfl, rfl⟩ rfl rfl rfl rfl rfl (by kernel_rfl) Try.func6 (by kernel_rfl)
    (of_decide_eq_true (by kernel_rfl)) (by unfold Func.isWrapper; first | (rw [if_pos (by decide +kernel)]; kernel_rfl) | (rw [if_neg (by decide +kernel)]; exact ⟨rfl, rfl⟩))
    (fun os started H enc _ => commandConflicts.lifted os started H enc)
#print axioms commandConflicts_proved
end Go.Proofs.Ytahaecnopeffhaa
