/- Texts of the proof, joined. -/
import Derived.Test.YtdokagebfeejbaaGreatDoorJ18
import Derived.Test.YtdokagebfeejbaaGreatDoorJ21
/- The document's own extra of messages: which fields a message has beside those of its shape. -/
namespace Go.Proofs.YtdokagebfeejbaaGreatDoor
open Go.RowKit Go.Wire1

def sib5 (x y x' y' : Int) : Bool := (x == x') && (y == y')
set_option maxHeartbeats 1000000 in
set_option maxRecDepth 100000 in
theorem sameBal5_any (x y x' y' : Int) (w : World) : Calls Tryz.prog 43 #[.agg #[.int .i64 x, .int .i64 y], .agg #[.int .i64 x', .int .i64 y']] w fun e w' => e = .returned (.bool (sib5 x y x' y')) ∧ Below w.heap.size w w' := by
  have BB : ∀ o p, Hid (Below w.heap.size w ((w.alloc o).alloc p)) := fun o p => ((Below.refl _ w).alloc (Nat.le_refl _) _).alloc (by simp) _
  obtain ⟨r, hr⟩ : ∃ r, Hid (sib5 x y x' y' = r) := ⟨_, rfl⟩
  rw [hr.out]
  by_cases h0 : x = x'
  · by_cases h1 : y = y'
    · have e : Hid (r = true) := by rw [← hr.out]; simp [Hid, sib5, h0, h1]
      rw [e.out]
      clear hr e
      go_enter Tryz.func43, Tryz.ntmps43
      go_wp2
      go_ret
      exact ⟨rfl, (BB _ _).out⟩
    · have e : Hid (r = false) := by rw [← hr.out]; simp [Hid, sib5, h0, h1]
      have g1 : (y == y') = false := beq_eq_false_iff_ne.2 h1
      rw [e.out]
      clear hr e
      go_enter Tryz.func43, Tryz.ntmps43
      go_wp2
      go_ret
      exact ⟨rfl, (BB _ _).out⟩
  · have e : Hid (r = false) := by rw [← hr.out]; simp [Hid, sib5, h0]
    rw [e.out]
    clear hr e
    go_enter Tryz.func43, Tryz.ntmps43
    go_wp2
    go_ret
    exact ⟨rfl, (BB _ _).out⟩
theorem cells8 {w : World} {q : Nat} {cs : List Value} (h : Blk w q cs) (o : Nat) {a b c d e f g k : Value} (h0 : cs[o]? = some a) (h1 : cs[o + 1]? = some b) (h2 : cs[o + 2]? = some c) (h3 : cs[o + 3]? = some d) (h4 : cs[o + 4]? = some e) (h5 : cs[o + 5]? = some f) (h6 : cs[o + 6]? = some g) (h7 : cs[o + 7]? = some k) :
    w.cell? ⟨q, o, none⟩ = some a ∧ w.cell? ⟨q, o + 1, none⟩ = some b ∧ w.cell? ⟨q, o + 2, none⟩ = some c ∧ w.cell? ⟨q, o + 3, none⟩ = some d ∧ w.cell? ⟨q, o + 4, none⟩ = some e ∧ w.cell? ⟨q, o + 5, none⟩ = some f ∧ w.cell? ⟨q, o + 6, none⟩ = some g ∧ w.cell? ⟨q, o + 7, none⟩ = some k :=
  ⟨h.cell _ _ h0, h.cell _ _ h1, h.cell _ _ h2, h.cell _ _ h3, h.cell _ _ h4, h.cell _ _ h5, h.cell _ _ h6, h.cell _ _ h7⟩
theorem sameC_zero (c : Cm) : sameC c zeroC = decide (c.kind = 0 ∧ c.client = 0 ∧ c.req = 0 ∧ c.key.toList = [] ∧ c.key2.toList = [] ∧ c.val.toList = [] ∧ c.old.toList = [] ∧ c.n = 0) := by
  rw [Bool.eq_iff_iff]
  simp [sameC, teq, zeroC]
  constructor
  · rintro ⟨⟨⟨⟨⟨⟨⟨h1, h2⟩, h3⟩, h4⟩, h5⟩, h6⟩, h7⟩, h8⟩; exact ⟨h1, h2, h3, h5, h6, h7, h8, h4⟩
  · rintro ⟨h1, h2, h3, h5, h6, h7, h8, h4⟩; exact ⟨⟨⟨⟨⟨⟨⟨h1, h2⟩, h3⟩, h4⟩, h5⟩, h6⟩, h7⟩, h8⟩
theorem dec_not (P : Prop) [Decidable P] (b : Bool) (h : P ↔ b = true) : decide (¬ P) = !b := by
  cases b with
  | true => exact decide_eq_false (fun k => k (h.2 rfl))
  | false => exact decide_eq_true (show ¬ P from fun p => by have := h.1 p; cases this)
theorem exm_1 (m : Ms) (h : m.kind = 1 ∨ m.kind = 3) : shK m = 1 ∧ extraM m = (!(sib5 m.p m.q 0 0 && ((m.st == 0) && (!m.sm)))) := by
  have hs : shK m = 1 := by
    unfold shK
    rcases h with h | h <;> simp [h]
  refine ⟨hs, ?_⟩
  unfold extraM
  rw [hs]
  exact dec_not _ _ (by simp [only, sib5, and_assoc])
theorem exm_2 (m : Ms) (h : m.kind = 2) : shK m = 2 ∧ extraM m = (!(sib5 m.p m.q 0 0 && ((m.st == 0) && (!m.sm && (sameC m.c zeroC))))) := by
  have hs : shK m = 2 := by
    unfold shK
    simp [h]
  refine ⟨hs, ?_⟩
  unfold extraM
  rw [hs]
  exact dec_not _ _ (by simp only [sameC_zero]; simp [only, zeroC, sib5, and_assoc])
theorem exm_3 (m : Ms) (h : m.kind = 4 ∨ m.kind = 6) : shK m = 3 ∧ extraM m = (!(sib5 m.p m.q 0 0 && ((m.st == 0) && (!m.sm && (sameC m.c zeroC && ((m.sq == 0) && ((m.dl.length == 0)))))))) := by
  have hs : shK m = 3 := by
    unfold shK
    rcases h with h | h <;> simp [h]
  refine ⟨hs, ?_⟩
  unfold extraM
  rw [hs]
  exact dec_not _ _ (by simp only [sameC_zero]; simp [only, zeroC, sib5, and_assoc])
theorem exm_4 (m : Ms) (h : m.kind = 5) : shK m = 4 ∧ extraM m = (!(sib5 m.x m.y 0 0 && (sib5 m.p m.q 0 0 && ((m.st == 0) && (!m.sm))))) := by
  have hs : shK m = 4 := by
    unfold shK
    simp [h]
  refine ⟨hs, ?_⟩
  unfold extraM
  rw [hs]
  exact dec_not _ _ (by simp [only, sib5, and_assoc])
theorem exm_5 (m : Ms) (h : m.kind = 7 ∧ m.st = 0) : shK m = 5 ∧ extraM m = (!(sib5 m.p m.q 0 0 && (!m.sm && (sameC m.c zeroC && ((m.sq == 0) && ((m.dl.length == 0))))))) := by
  have hs : shK m = 5 := by
    unfold shK
    simp [h]
  refine ⟨hs, ?_⟩
  unfold extraM
  rw [hs]
  exact dec_not _ _ (by simp only [sameC_zero]; simp [only, zeroC, sib5, and_assoc, h])
theorem exm_6 (m : Ms) (h : m.kind = 7 ∧ m.st ≠ 0) : shK m = 6 ∧ extraM m = (false) := by
  have hs : shK m = 6 := by
    unfold shK
    simp [h]
  refine ⟨hs, ?_⟩
  unfold extraM
  rw [hs]
  simp [only]
theorem exm_7 (m : Ms) (h : m.kind = 8) : shK m = 7 ∧ extraM m = (!((m.st == 0) && (!m.sm && (sameC m.c zeroC && ((m.sq == 0) && ((m.dl.length == 0))))))) := by
  have hs : shK m = 7 := by
    unfold shK
    simp [h]
  refine ⟨hs, ?_⟩
  unfold extraM
  rw [hs]
  exact dec_not _ _ (by simp only [sameC_zero]; simp [only, zeroC, and_assoc])
theorem exm_0 (m : Ms) (h : m.kind = 9) : shK m = 0 ∧ extraM m = (!(sib5 m.x m.y 0 0 && (sib5 m.p m.q 0 0 && ((m.st == 0) && (!m.sm && (sameC m.c zeroC && ((m.sq == 0) && ((m.dl.length == 0))))))))) := by
  have hs : shK m = 0 := by
    unfold shK
    simp [h]
  refine ⟨hs, ?_⟩
  unfold extraM
  rw [hs]
  exact dec_not _ _ (by simp only [sameC_zero]; simp [only, zeroC, sib5, and_assoc])
set_option maxHeartbeats 4000000 in
set_option maxRecDepth 100000 in
theorem ex5_1 (m : Ms) (ua : Option Addr) (uk uc : Nat) (w : World) (h : m.kind = 1 ∨ m.kind = 3) : Calls Tryz.prog 25 #[.agg (mgc m (.slice ua uk uc)).toArray] w fun e w' => e = .returned (.bool (extraM m)) ∧ Below w.heap.size w w' := by
  have hc0 : hc5 m = true := by unfold hc5; rcases h with h | h <;> simp [h]
  have hs0 : hs5 m = true := by unfold hs5; rw [hc0]; rcases h with h | h <;> simp [h]
  have hb0 : hb5 m.kind = true := by unfold hb5; rcases h with h | h <;> simp [h]
  have k7 : (m.kind == 7) = false := by rcases h with h | h <;> simp [h]
  have k7' : (m.kind != 7) = true := by rcases h with h | h <;> simp [h]
  have k8 : (m.kind != 8) = true := by rcases h with h | h <;> simp [h]
  have HX : Hid (extraM m = (!(sib5 m.p m.q 0 0 && ((m.st == 0) && (!m.sm))))) := (exm_1 m h).2
  have HC := hide hc0
  have HS := hide hs0
  have HB := hide hb0
  clear h hc0 hs0 hb0
  obtain ⟨bp, hbp⟩ : ∃ b : Bool, Hid ((sib5 m.p m.q 0 0) = b) := ⟨_, rfl⟩
  obtain ⟨bs, hbs⟩ : ∃ b : Bool, Hid (((m.st == 0)) = b) := ⟨_, rfl⟩
  obtain ⟨bm, hbm⟩ : ∃ b : Bool, Hid ((m.sm) = b) := ⟨_, rfl⟩
  have HE : Hid (extraM m = (!(bp && (bs && (!bm))))) := by show _ = _; rw [HX.out, hbp.out, hbs.out, hbm.out]
  clear HX
  obtain ⟨z, hz⟩ : ∃ z, Hid (extraM m = z) := ⟨_, rfl⟩
  rw [hz.out] at HE ⊢
  clear hz
  obtain ⟨X0, hX0⟩ : ∃ X, X = w.alloc (.cells (mgc m (.slice ua uk uc)).toArray 30) := ⟨_, rfl⟩
  obtain ⟨X1, hX1⟩ : ∃ X, X = X0.alloc (.cells #[.int .i64 0, .int .i64 0] 25) := ⟨_, rfl⟩
  obtain ⟨X, hX⟩ : ∃ X, X = X1.alloc (.cells #[.int .i64 0, .int .i64 0, .int .i64 0, .string ⟨#[]⟩, .string ⟨#[]⟩, .string ⟨#[]⟩, .string ⟨#[]⟩, .int .i64 0] 27) := ⟨_, rfl⟩
  have s0 : X0.heap.size = w.heap.size + 1 := by rw [hX0]; simp
  have s1 : X1.heap.size = w.heap.size + 2 := by rw [hX1]; simp [s0]
  have b0 : Below w.heap.size w X0 := by rw [hX0]; exact (Below.refl _ w).alloc (Nat.le_refl _) _
  have b1 : Below X0.heap.size X0 X1 := by rw [hX1]; exact (Below.refl _ _).alloc (Nat.le_refl _) _
  have b2 : Below X1.heap.size X1 X := by rw [hX]; exact (Below.refl _ _).alloc (Nat.le_refl _) _
  have BX : Hid (Below w.heap.size w X) := (b0.trans (b1.mono (by omega))).trans (b2.mono (by omega))
  have q0 : Blk X0 w.heap.size (mgc m (.slice ua uk uc)) := by rw [hX0]; exact blk_new w 30 (mgc m (.slice ua uk uc))
  have QM : Hid (Blk X w.heap.size (mgc m (.slice ua uk uc))) := (q0.on b1).on b2
  have q1 : Blk X1 X0.heap.size [.int .i64 0, .int .i64 0] := by rw [hX1]; exact blk_new X0 25 [.int .i64 0, .int .i64 0]
  rw [s0] at q1
  have QB : Hid (Blk X (w.heap.size + 1) [.int .i64 0, .int .i64 0]) := q1.on b2
  have q2 : Blk X X1.heap.size [.int .i64 0, .int .i64 0, .int .i64 0, .string ⟨#[]⟩, .string ⟨#[]⟩, .string ⟨#[]⟩, .string ⟨#[]⟩, .int .i64 0] := by rw [hX]; exact blk_new X1 27 [.int .i64 0, .int .i64 0, .int .i64 0, .string ⟨#[]⟩, .string ⟨#[]⟩, .string ⟨#[]⟩, .string ⟨#[]⟩, .int .i64 0]
  rw [s1] at q2
  have QC : Hid (Blk X (w.heap.size + 2) [.int .i64 0, .int .i64 0, .int .i64 0, .string ⟨#[]⟩, .string ⟨#[]⟩, .string ⟨#[]⟩, .string ⟨#[]⟩, .int .i64 0]) := q2
  have eX : Hid (((w.alloc (.cells (mgc m (.slice ua uk uc)).toArray 30)).alloc (.cells #[.int .i64 0, .int .i64 0] 25)).alloc (.cells #[.int .i64 0, .int .i64 0, .int .i64 0, .string ⟨#[]⟩, .string ⟨#[]⟩, .string ⟨#[]⟩, .string ⟨#[]⟩, .int .i64 0] 27) = X) := by rw [hX, hX1, hX0]; exact rfl
  clear hX hX1 hX0 s0 s1 b0 b1 b2 q0 q1 q2
  have c_X_kind : X.cell? ⟨w.heap.size, 0, none⟩ = some (.int .i64 m.kind) := QM.out.cell 0 _ rfl
  have c_X_st : X.cell? ⟨w.heap.size, 7, none⟩ = some (.int .i64 m.st) := QM.out.cell 7 _ rfl
  go_enter Tryz.func25, Tryz.ntmps25
  go_upto_region 3 with fail
  rw [eX.out]
  clear eX
  go_wp2_with (first | (refine wpList_load_mid rfl 30 _ rfl w.heap.size 0 rfl (mgc m (.slice ua uk uc)) _ QM.out.range Tryz.underlying30 rfl (by kernel_rfl) ?_))
  refine (hc5_any m (.slice ua uk uc) _).mono ?_
  rintro e w1 ⟨rfl, hb⟩
  rw [HC.out]
  have B1 : Hid (Below w.heap.size w w1) := BX.out.trans (hb.mono BX.out.size)
  have M1 : Hid (Blk w1 w.heap.size (mgc m (.slice ua uk uc))) := QM.out.on hb
  have N1 : Hid (Blk w1 (w.heap.size + 1) [.int .i64 0, .int .i64 0]) := QB.out.on hb
  have C1 : Hid (Blk w1 (w.heap.size + 2) [.int .i64 0, .int .i64 0, .int .i64 0, .string ⟨#[]⟩, .string ⟨#[]⟩, .string ⟨#[]⟩, .string ⟨#[]⟩, .int .i64 0]) := QC.out.on hb
  clear hb QM QB QC BX
  have c_w1_kind : w1.cell? ⟨w.heap.size, 0, none⟩ = some (.int .i64 m.kind) := M1.out.cell 0 _ rfl
  clear HC
  go_wp2_with (first | (refine wpList_load_mid rfl 30 _ rfl w.heap.size 0 rfl (mgc m (.slice ua uk uc)) _ M1.out.range Tryz.underlying30 rfl (by kernel_rfl) ?_))
  refine (hs5_any m (.slice ua uk uc) _).mono ?_
  rintro e w2 ⟨rfl, hb⟩
  rw [HS.out]
  have B2 : Hid (Below w.heap.size w w2) := B1.out.trans (hb.mono B1.out.size)
  have M2 : Hid (Blk w2 w.heap.size (mgc m (.slice ua uk uc))) := M1.out.on hb
  have N2 : Hid (Blk w2 (w.heap.size + 1) [.int .i64 0, .int .i64 0]) := N1.out.on hb
  have C2 : Hid (Blk w2 (w.heap.size + 2) [.int .i64 0, .int .i64 0, .int .i64 0, .string ⟨#[]⟩, .string ⟨#[]⟩, .string ⟨#[]⟩, .string ⟨#[]⟩, .int .i64 0]) := C1.out.on hb
  clear hb M1 N1 C1 B1
  have c_w2_kind : w2.cell? ⟨w.heap.size, 0, none⟩ = some (.int .i64 m.kind) := M2.out.cell 0 _ rfl
  clear HS
  go_wp2_with fail
  refine (hb5_any' m.kind _).mono ?_
  rintro e w3 ⟨rfl, hb⟩
  rw [HB.out]
  have B3 : Hid (Below w.heap.size w w3) := B2.out.trans (hb.mono B2.out.size)
  have M3 : Hid (Blk w3 w.heap.size (mgc m (.slice ua uk uc))) := M2.out.on hb
  have N3 : Hid (Blk w3 (w.heap.size + 1) [.int .i64 0, .int .i64 0]) := N2.out.on hb
  have C3 : Hid (Blk w3 (w.heap.size + 2) [.int .i64 0, .int .i64 0, .int .i64 0, .string ⟨#[]⟩, .string ⟨#[]⟩, .string ⟨#[]⟩, .string ⟨#[]⟩, .int .i64 0]) := C2.out.on hb
  clear hb M2 N2 C2 B2
  have c_w3_kind : w3.cell? ⟨w.heap.size, 0, none⟩ = some (.int .i64 m.kind) := M3.out.cell 0 _ rfl
  have c_w3_st : w3.cell? ⟨w.heap.size, 7, none⟩ = some (.int .i64 m.st) := M3.out.cell 7 _ rfl
  have c_w3_p : w3.cell? ⟨w.heap.size, 5, none⟩ = some (.int .i64 m.p) := M3.out.cell 5 _ rfl
  have c_w3_q : w3.cell? ⟨w.heap.size, 6, none⟩ = some (.int .i64 m.q) := M3.out.cell 6 _ rfl
  have n_w3_0 : w3.cell? ⟨w.heap.size + 1, 0, none⟩ = some (.int .i64 0) := N3.out.cell 0 _ rfl
  have n_w3_1 : w3.cell? ⟨w.heap.size + 1, 1, none⟩ = some (.int .i64 0) := N3.out.cell 1 _ rfl
  clear HB
  go_wp2_with fail
  refine (sameBal5_any m.p m.q 0 0 _).mono ?_
  rintro e w4 ⟨rfl, hb⟩
  rw [hbp.out]
  have B4 : Hid (Below w.heap.size w w4) := B3.out.trans (hb.mono B3.out.size)
  have M4 : Hid (Blk w4 w.heap.size (mgc m (.slice ua uk uc))) := M3.out.on hb
  have N4 : Hid (Blk w4 (w.heap.size + 1) [.int .i64 0, .int .i64 0]) := N3.out.on hb
  have C4 : Hid (Blk w4 (w.heap.size + 2) [.int .i64 0, .int .i64 0, .int .i64 0, .string ⟨#[]⟩, .string ⟨#[]⟩, .string ⟨#[]⟩, .string ⟨#[]⟩, .int .i64 0]) := C3.out.on hb
  clear hb M3 N3 C3 B3
  have c_w4_kind : w4.cell? ⟨w.heap.size, 0, none⟩ = some (.int .i64 m.kind) := M4.out.cell 0 _ rfl
  have c_w4_st : w4.cell? ⟨w.heap.size, 7, none⟩ = some (.int .i64 m.st) := M4.out.cell 7 _ rfl
  have c_w4_sm : w4.cell? ⟨w.heap.size, 8, none⟩ = some (.bool bm) := by rw [← hbm.out]; exact M4.out.cell 8 _ rfl
  clear hbp
  cases bp with
  | false =>
    have HF : Hid (z = true) := by show _ = _; rw [HE.out]; simp
    clear HE
    go_wp2
    go_ret
    exact ⟨by rw [HF.out]; rfl, B4.out⟩
  | true =>
    by_cases hst : m.st = 0
    · have dst : (m.st != 0) = false := by simp [hst]
      have vst : Hid (bs = true) := by show _ = _; rw [← hbs.out]; simp [hst]
      rw [vst.out] at HE
      clear hst vst hbs
      clear hbm
      cases bm with
      | true =>
        have HF : Hid (z = true) := by show _ = _; rw [HE.out]; simp
        clear HE
        go_wp2
        go_ret
        exact ⟨by rw [HF.out]; rfl, B4.out⟩
      | false =>
        have HF : Hid (z = false) := by show _ = _; rw [HE.out]; simp
        clear HE
        go_wp2
        go_ret
        exact ⟨by rw [HF.out]; rfl, B4.out⟩
    · have dst : (m.st != 0) = true := by simp [hst]
      have vst : Hid (bs = false) := by show _ = _; rw [← hbs.out]; simp [hst]
      rw [vst.out] at HE
      clear hst vst hbs
      have HF : Hid (z = true) := by show _ = _; rw [HE.out]; simp
      clear HE
      go_wp2
      go_ret
      exact ⟨by rw [HF.out]; rfl, B4.out⟩
set_option maxHeartbeats 4000000 in
set_option maxRecDepth 100000 in
theorem ex5_2 (m : Ms) (ua : Option Addr) (uk uc : Nat) (w : World) (h : m.kind = 2) : Calls Tryz.prog 25 #[.agg (mgc m (.slice ua uk uc)).toArray] w fun e w' => e = .returned (.bool (extraM m)) ∧ Below w.heap.size w w' := by
  have hc0 : hc5 m = false := by unfold hc5; simp [h]
  have hs0 : hs5 m = true := by unfold hs5; rw [hc0]; simp [h]
  have hb0 : hb5 m.kind = true := by unfold hb5; simp [h]
  have k7 : (m.kind == 7) = false := by simp [h]
  have k7' : (m.kind != 7) = true := by simp [h]
  have k8 : (m.kind != 8) = true := by simp [h]
  have HX : Hid (extraM m = (!(sib5 m.p m.q 0 0 && ((m.st == 0) && (!m.sm && (sameC m.c zeroC)))))) := (exm_2 m h).2
  have HC := hide hc0
  have HS := hide hs0
  have HB := hide hb0
  clear h hc0 hs0 hb0
  obtain ⟨bp, hbp⟩ : ∃ b : Bool, Hid ((sib5 m.p m.q 0 0) = b) := ⟨_, rfl⟩
  obtain ⟨bs, hbs⟩ : ∃ b : Bool, Hid (((m.st == 0)) = b) := ⟨_, rfl⟩
  obtain ⟨bm, hbm⟩ : ∃ b : Bool, Hid ((m.sm) = b) := ⟨_, rfl⟩
  obtain ⟨bc, hbc⟩ : ∃ b : Bool, Hid ((sameC m.c zeroC) = b) := ⟨_, rfl⟩
  have HE : Hid (extraM m = (!(bp && (bs && (!bm && (bc)))))) := by show _ = _; rw [HX.out, hbp.out, hbs.out, hbm.out, hbc.out]
  clear HX
  obtain ⟨z, hz⟩ : ∃ z, Hid (extraM m = z) := ⟨_, rfl⟩
  rw [hz.out] at HE ⊢
  clear hz
  obtain ⟨X0, hX0⟩ : ∃ X, X = w.alloc (.cells (mgc m (.slice ua uk uc)).toArray 30) := ⟨_, rfl⟩
  obtain ⟨X1, hX1⟩ : ∃ X, X = X0.alloc (.cells #[.int .i64 0, .int .i64 0] 25) := ⟨_, rfl⟩
  obtain ⟨X, hX⟩ : ∃ X, X = X1.alloc (.cells #[.int .i64 0, .int .i64 0, .int .i64 0, .string ⟨#[]⟩, .string ⟨#[]⟩, .string ⟨#[]⟩, .string ⟨#[]⟩, .int .i64 0] 27) := ⟨_, rfl⟩
  have s0 : X0.heap.size = w.heap.size + 1 := by rw [hX0]; simp
  have s1 : X1.heap.size = w.heap.size + 2 := by rw [hX1]; simp [s0]
  have b0 : Below w.heap.size w X0 := by rw [hX0]; exact (Below.refl _ w).alloc (Nat.le_refl _) _
  have b1 : Below X0.heap.size X0 X1 := by rw [hX1]; exact (Below.refl _ _).alloc (Nat.le_refl _) _
  have b2 : Below X1.heap.size X1 X := by rw [hX]; exact (Below.refl _ _).alloc (Nat.le_refl _) _
  have BX : Hid (Below w.heap.size w X) := (b0.trans (b1.mono (by omega))).trans (b2.mono (by omega))
  have q0 : Blk X0 w.heap.size (mgc m (.slice ua uk uc)) := by rw [hX0]; exact blk_new w 30 (mgc m (.slice ua uk uc))
  have QM : Hid (Blk X w.heap.size (mgc m (.slice ua uk uc))) := (q0.on b1).on b2
  have q1 : Blk X1 X0.heap.size [.int .i64 0, .int .i64 0] := by rw [hX1]; exact blk_new X0 25 [.int .i64 0, .int .i64 0]
  rw [s0] at q1
  have QB : Hid (Blk X (w.heap.size + 1) [.int .i64 0, .int .i64 0]) := q1.on b2
  have q2 : Blk X X1.heap.size [.int .i64 0, .int .i64 0, .int .i64 0, .string ⟨#[]⟩, .string ⟨#[]⟩, .string ⟨#[]⟩, .string ⟨#[]⟩, .int .i64 0] := by rw [hX]; exact blk_new X1 27 [.int .i64 0, .int .i64 0, .int .i64 0, .string ⟨#[]⟩, .string ⟨#[]⟩, .string ⟨#[]⟩, .string ⟨#[]⟩, .int .i64 0]
  rw [s1] at q2
  have QC : Hid (Blk X (w.heap.size + 2) [.int .i64 0, .int .i64 0, .int .i64 0, .string ⟨#[]⟩, .string ⟨#[]⟩, .string ⟨#[]⟩, .string ⟨#[]⟩, .int .i64 0]) := q2
  have eX : Hid (((w.alloc (.cells (mgc m (.slice ua uk uc)).toArray 30)).alloc (.cells #[.int .i64 0, .int .i64 0] 25)).alloc (.cells #[.int .i64 0, .int .i64 0, .int .i64 0, .string ⟨#[]⟩, .string ⟨#[]⟩, .string ⟨#[]⟩, .string ⟨#[]⟩, .int .i64 0] 27) = X) := by rw [hX, hX1, hX0]; exact rfl
  clear hX hX1 hX0 s0 s1 b0 b1 b2 q0 q1 q2
  have c_X_kind : X.cell? ⟨w.heap.size, 0, none⟩ = some (.int .i64 m.kind) := QM.out.cell 0 _ rfl
  have c_X_st : X.cell? ⟨w.heap.size, 7, none⟩ = some (.int .i64 m.st) := QM.out.cell 7 _ rfl
  go_enter Tryz.func25, Tryz.ntmps25
  go_upto_region 3 with fail
  rw [eX.out]
  clear eX
  go_wp2_with (first | (refine wpList_load_mid rfl 30 _ rfl w.heap.size 0 rfl (mgc m (.slice ua uk uc)) _ QM.out.range Tryz.underlying30 rfl (by kernel_rfl) ?_))
  refine (hc5_any m (.slice ua uk uc) _).mono ?_
  rintro e w1 ⟨rfl, hb⟩
  rw [HC.out]
  have B1 : Hid (Below w.heap.size w w1) := BX.out.trans (hb.mono BX.out.size)
  have M1 : Hid (Blk w1 w.heap.size (mgc m (.slice ua uk uc))) := QM.out.on hb
  have N1 : Hid (Blk w1 (w.heap.size + 1) [.int .i64 0, .int .i64 0]) := QB.out.on hb
  have C1 : Hid (Blk w1 (w.heap.size + 2) [.int .i64 0, .int .i64 0, .int .i64 0, .string ⟨#[]⟩, .string ⟨#[]⟩, .string ⟨#[]⟩, .string ⟨#[]⟩, .int .i64 0]) := QC.out.on hb
  clear hb QM QB QC BX
  have c_w1_kind : w1.cell? ⟨w.heap.size, 0, none⟩ = some (.int .i64 m.kind) := M1.out.cell 0 _ rfl
  clear HC
  go_wp2_with (first | (refine wpList_load_mid rfl 30 _ rfl w.heap.size 0 rfl (mgc m (.slice ua uk uc)) _ M1.out.range Tryz.underlying30 rfl (by kernel_rfl) ?_))
  refine (hs5_any m (.slice ua uk uc) _).mono ?_
  rintro e w2 ⟨rfl, hb⟩
  rw [HS.out]
  have B2 : Hid (Below w.heap.size w w2) := B1.out.trans (hb.mono B1.out.size)
  have M2 : Hid (Blk w2 w.heap.size (mgc m (.slice ua uk uc))) := M1.out.on hb
  have N2 : Hid (Blk w2 (w.heap.size + 1) [.int .i64 0, .int .i64 0]) := N1.out.on hb
  have C2 : Hid (Blk w2 (w.heap.size + 2) [.int .i64 0, .int .i64 0, .int .i64 0, .string ⟨#[]⟩, .string ⟨#[]⟩, .string ⟨#[]⟩, .string ⟨#[]⟩, .int .i64 0]) := C1.out.on hb
  clear hb M1 N1 C1 B1
  have c_w2_kind : w2.cell? ⟨w.heap.size, 0, none⟩ = some (.int .i64 m.kind) := M2.out.cell 0 _ rfl
  clear HS
  go_wp2_with fail
  refine (hb5_any' m.kind _).mono ?_
  rintro e w3 ⟨rfl, hb⟩
  rw [HB.out]
  have B3 : Hid (Below w.heap.size w w3) := B2.out.trans (hb.mono B2.out.size)
  have M3 : Hid (Blk w3 w.heap.size (mgc m (.slice ua uk uc))) := M2.out.on hb
  have N3 : Hid (Blk w3 (w.heap.size + 1) [.int .i64 0, .int .i64 0]) := N2.out.on hb
  have C3 : Hid (Blk w3 (w.heap.size + 2) [.int .i64 0, .int .i64 0, .int .i64 0, .string ⟨#[]⟩, .string ⟨#[]⟩, .string ⟨#[]⟩, .string ⟨#[]⟩, .int .i64 0]) := C2.out.on hb
  clear hb M2 N2 C2 B2
  have c_w3_kind : w3.cell? ⟨w.heap.size, 0, none⟩ = some (.int .i64 m.kind) := M3.out.cell 0 _ rfl
  have c_w3_st : w3.cell? ⟨w.heap.size, 7, none⟩ = some (.int .i64 m.st) := M3.out.cell 7 _ rfl
  have c_w3_p : w3.cell? ⟨w.heap.size, 5, none⟩ = some (.int .i64 m.p) := M3.out.cell 5 _ rfl
  have c_w3_q : w3.cell? ⟨w.heap.size, 6, none⟩ = some (.int .i64 m.q) := M3.out.cell 6 _ rfl
  have n_w3_0 : w3.cell? ⟨w.heap.size + 1, 0, none⟩ = some (.int .i64 0) := N3.out.cell 0 _ rfl
  have n_w3_1 : w3.cell? ⟨w.heap.size + 1, 1, none⟩ = some (.int .i64 0) := N3.out.cell 1 _ rfl
  clear HB
  go_wp2_with fail
  refine (sameBal5_any m.p m.q 0 0 _).mono ?_
  rintro e w4 ⟨rfl, hb⟩
  rw [hbp.out]
  have B4 : Hid (Below w.heap.size w w4) := B3.out.trans (hb.mono B3.out.size)
  have M4 : Hid (Blk w4 w.heap.size (mgc m (.slice ua uk uc))) := M3.out.on hb
  have N4 : Hid (Blk w4 (w.heap.size + 1) [.int .i64 0, .int .i64 0]) := N3.out.on hb
  have C4 : Hid (Blk w4 (w.heap.size + 2) [.int .i64 0, .int .i64 0, .int .i64 0, .string ⟨#[]⟩, .string ⟨#[]⟩, .string ⟨#[]⟩, .string ⟨#[]⟩, .int .i64 0]) := C3.out.on hb
  clear hb M3 N3 C3 B3
  have c_w4_kind : w4.cell? ⟨w.heap.size, 0, none⟩ = some (.int .i64 m.kind) := M4.out.cell 0 _ rfl
  have c_w4_st : w4.cell? ⟨w.heap.size, 7, none⟩ = some (.int .i64 m.st) := M4.out.cell 7 _ rfl
  obtain ⟨m_w4_0, m_w4_1, m_w4_2, m_w4_3, m_w4_4, m_w4_5, m_w4_6, m_w4_7⟩ := cells8 M4.out 9 rfl rfl rfl rfl rfl rfl rfl rfl
  obtain ⟨z_w4_0, z_w4_1, z_w4_2, z_w4_3, z_w4_4, z_w4_5, z_w4_6, z_w4_7⟩ := cells8 C4.out 0 rfl rfl rfl rfl rfl rfl rfl rfl
  have c_w4_sm : w4.cell? ⟨w.heap.size, 8, none⟩ = some (.bool bm) := by rw [← hbm.out]; exact M4.out.cell 8 _ rfl
  clear hbp
  cases bp with
  | false =>
    have HF : Hid (z = true) := by show _ = _; rw [HE.out]; simp
    clear HE
    go_wp2
    go_ret
    exact ⟨by rw [HF.out]; rfl, B4.out⟩
  | true =>
    by_cases hst : m.st = 0
    · have dst : (m.st != 0) = false := by simp [hst]
      have vst : Hid (bs = true) := by show _ = _; rw [← hbs.out]; simp [hst]
      rw [vst.out] at HE
      clear hst vst hbs
      clear hbm
      cases bm with
      | true =>
        have HF : Hid (z = true) := by show _ = _; rw [HE.out]; simp
        clear HE
        go_wp2
        go_ret
        exact ⟨by rw [HF.out]; rfl, B4.out⟩
      | false =>
        go_wp2_with fail
        refine (sameCmd_any m.c zeroC _).mono ?_
        rintro e w5 ⟨rfl, hb⟩
        rw [hbc.out]
        have B5 : Hid (Below w.heap.size w w5) := B4.out.trans (hb.mono B4.out.size)
        have M5 : Hid (Blk w5 w.heap.size (mgc m (.slice ua uk uc))) := M4.out.on hb
        have N5 : Hid (Blk w5 (w.heap.size + 1) [.int .i64 0, .int .i64 0]) := N4.out.on hb
        have C5 : Hid (Blk w5 (w.heap.size + 2) [.int .i64 0, .int .i64 0, .int .i64 0, .string ⟨#[]⟩, .string ⟨#[]⟩, .string ⟨#[]⟩, .string ⟨#[]⟩, .int .i64 0]) := C4.out.on hb
        clear hb M4 N4 C4 B4
        have c_w5_kind : w5.cell? ⟨w.heap.size, 0, none⟩ = some (.int .i64 m.kind) := M5.out.cell 0 _ rfl
        have c_w5_st : w5.cell? ⟨w.heap.size, 7, none⟩ = some (.int .i64 m.st) := M5.out.cell 7 _ rfl
        clear hbc
        cases bc with
        | false =>
          have HF : Hid (z = true) := by show _ = _; rw [HE.out]; simp
          clear HE
          go_wp2
          go_ret
          exact ⟨by rw [HF.out]; rfl, B5.out⟩
        | true =>
          have HF : Hid (z = false) := by show _ = _; rw [HE.out]; simp
          clear HE
          go_wp2
          go_ret
          exact ⟨by rw [HF.out]; rfl, B5.out⟩
    · have dst : (m.st != 0) = true := by simp [hst]
      have vst : Hid (bs = false) := by show _ = _; rw [← hbs.out]; simp [hst]
      rw [vst.out] at HE
      clear hst vst hbs
      have HF : Hid (z = true) := by show _ = _; rw [HE.out]; simp
      clear HE
      go_wp2
      go_ret
      exact ⟨by rw [HF.out]; rfl, B4.out⟩
set_option maxHeartbeats 4000000 in
set_option maxRecDepth 100000 in
theorem ex5_3 (m : Ms) (ua : Option Addr) (uk uc : Nat) (w : World) (hu : uk = m.dl.length) (h : m.kind = 4 ∨ m.kind = 6) : Calls Tryz.prog 25 #[.agg (mgc m (.slice ua uk uc)).toArray] w fun e w' => e = .returned (.bool (extraM m)) ∧ Below w.heap.size w w' := by
  have hc0 : hc5 m = false := by unfold hc5; rcases h with h | h <;> simp [h]
  have hs0 : hs5 m = false := by unfold hs5; rw [hc0]; rcases h with h | h <;> simp [h]
  have hb0 : hb5 m.kind = true := by unfold hb5; rcases h with h | h <;> simp [h]
  have k7 : (m.kind == 7) = false := by rcases h with h | h <;> simp [h]
  have k7' : (m.kind != 7) = true := by rcases h with h | h <;> simp [h]
  have k8 : (m.kind != 8) = true := by rcases h with h | h <;> simp [h]
  have HX : Hid (extraM m = (!(sib5 m.p m.q 0 0 && ((m.st == 0) && (!m.sm && (sameC m.c zeroC && ((m.sq == 0) && ((m.dl.length == 0))))))))) := (exm_3 m h).2
  have HC := hide hc0
  have HS := hide hs0
  have HB := hide hb0
  have HU := hide hu
  clear h hc0 hs0 hb0 hu
  obtain ⟨bp, hbp⟩ : ∃ b : Bool, Hid ((sib5 m.p m.q 0 0) = b) := ⟨_, rfl⟩
  obtain ⟨bs, hbs⟩ : ∃ b : Bool, Hid (((m.st == 0)) = b) := ⟨_, rfl⟩
  obtain ⟨bm, hbm⟩ : ∃ b : Bool, Hid ((m.sm) = b) := ⟨_, rfl⟩
  obtain ⟨bc, hbc⟩ : ∃ b : Bool, Hid ((sameC m.c zeroC) = b) := ⟨_, rfl⟩
  obtain ⟨bq, hbq⟩ : ∃ b : Bool, Hid (((m.sq == 0)) = b) := ⟨_, rfl⟩
  obtain ⟨bl, hbl⟩ : ∃ b : Bool, Hid (((m.dl.length == 0)) = b) := ⟨_, rfl⟩
  have HE : Hid (extraM m = (!(bp && (bs && (!bm && (bc && (bq && (bl)))))))) := by show _ = _; rw [HX.out, hbp.out, hbs.out, hbm.out, hbc.out, hbq.out, hbl.out]
  clear HX
  obtain ⟨z, hz⟩ : ∃ z, Hid (extraM m = z) := ⟨_, rfl⟩
  rw [hz.out] at HE ⊢
  clear hz
  obtain ⟨X0, hX0⟩ : ∃ X, X = w.alloc (.cells (mgc m (.slice ua uk uc)).toArray 30) := ⟨_, rfl⟩
  obtain ⟨X1, hX1⟩ : ∃ X, X = X0.alloc (.cells #[.int .i64 0, .int .i64 0] 25) := ⟨_, rfl⟩
  obtain ⟨X, hX⟩ : ∃ X, X = X1.alloc (.cells #[.int .i64 0, .int .i64 0, .int .i64 0, .string ⟨#[]⟩, .string ⟨#[]⟩, .string ⟨#[]⟩, .string ⟨#[]⟩, .int .i64 0] 27) := ⟨_, rfl⟩
  have s0 : X0.heap.size = w.heap.size + 1 := by rw [hX0]; simp
  have s1 : X1.heap.size = w.heap.size + 2 := by rw [hX1]; simp [s0]
  have b0 : Below w.heap.size w X0 := by rw [hX0]; exact (Below.refl _ w).alloc (Nat.le_refl _) _
  have b1 : Below X0.heap.size X0 X1 := by rw [hX1]; exact (Below.refl _ _).alloc (Nat.le_refl _) _
  have b2 : Below X1.heap.size X1 X := by rw [hX]; exact (Below.refl _ _).alloc (Nat.le_refl _) _
  have BX : Hid (Below w.heap.size w X) := (b0.trans (b1.mono (by omega))).trans (b2.mono (by omega))
  have q0 : Blk X0 w.heap.size (mgc m (.slice ua uk uc)) := by rw [hX0]; exact blk_new w 30 (mgc m (.slice ua uk uc))
  have QM : Hid (Blk X w.heap.size (mgc m (.slice ua uk uc))) := (q0.on b1).on b2
  have q1 : Blk X1 X0.heap.size [.int .i64 0, .int .i64 0] := by rw [hX1]; exact blk_new X0 25 [.int .i64 0, .int .i64 0]
  rw [s0] at q1
  have QB : Hid (Blk X (w.heap.size + 1) [.int .i64 0, .int .i64 0]) := q1.on b2
  have q2 : Blk X X1.heap.size [.int .i64 0, .int .i64 0, .int .i64 0, .string ⟨#[]⟩, .string ⟨#[]⟩, .string ⟨#[]⟩, .string ⟨#[]⟩, .int .i64 0] := by rw [hX]; exact blk_new X1 27 [.int .i64 0, .int .i64 0, .int .i64 0, .string ⟨#[]⟩, .string ⟨#[]⟩, .string ⟨#[]⟩, .string ⟨#[]⟩, .int .i64 0]
  rw [s1] at q2
  have QC : Hid (Blk X (w.heap.size + 2) [.int .i64 0, .int .i64 0, .int .i64 0, .string ⟨#[]⟩, .string ⟨#[]⟩, .string ⟨#[]⟩, .string ⟨#[]⟩, .int .i64 0]) := q2
  have eX : Hid (((w.alloc (.cells (mgc m (.slice ua uk uc)).toArray 30)).alloc (.cells #[.int .i64 0, .int .i64 0] 25)).alloc (.cells #[.int .i64 0, .int .i64 0, .int .i64 0, .string ⟨#[]⟩, .string ⟨#[]⟩, .string ⟨#[]⟩, .string ⟨#[]⟩, .int .i64 0] 27) = X) := by rw [hX, hX1, hX0]; exact rfl
  clear hX hX1 hX0 s0 s1 b0 b1 b2 q0 q1 q2
  have c_X_kind : X.cell? ⟨w.heap.size, 0, none⟩ = some (.int .i64 m.kind) := QM.out.cell 0 _ rfl
  have c_X_st : X.cell? ⟨w.heap.size, 7, none⟩ = some (.int .i64 m.st) := QM.out.cell 7 _ rfl
  go_enter Tryz.func25, Tryz.ntmps25
  go_upto_region 3 with fail
  rw [eX.out]
  clear eX
  go_wp2_with (first | (refine wpList_load_mid rfl 30 _ rfl w.heap.size 0 rfl (mgc m (.slice ua uk uc)) _ QM.out.range Tryz.underlying30 rfl (by kernel_rfl) ?_))
  refine (hc5_any m (.slice ua uk uc) _).mono ?_
  rintro e w1 ⟨rfl, hb⟩
  rw [HC.out]
  have B1 : Hid (Below w.heap.size w w1) := BX.out.trans (hb.mono BX.out.size)
  have M1 : Hid (Blk w1 w.heap.size (mgc m (.slice ua uk uc))) := QM.out.on hb
  have N1 : Hid (Blk w1 (w.heap.size + 1) [.int .i64 0, .int .i64 0]) := QB.out.on hb
  have C1 : Hid (Blk w1 (w.heap.size + 2) [.int .i64 0, .int .i64 0, .int .i64 0, .string ⟨#[]⟩, .string ⟨#[]⟩, .string ⟨#[]⟩, .string ⟨#[]⟩, .int .i64 0]) := QC.out.on hb
  clear hb QM QB QC BX
  have c_w1_kind : w1.cell? ⟨w.heap.size, 0, none⟩ = some (.int .i64 m.kind) := M1.out.cell 0 _ rfl
  clear HC
  go_wp2_with (first | (refine wpList_load_mid rfl 30 _ rfl w.heap.size 0 rfl (mgc m (.slice ua uk uc)) _ M1.out.range Tryz.underlying30 rfl (by kernel_rfl) ?_))
  refine (hs5_any m (.slice ua uk uc) _).mono ?_
  rintro e w2 ⟨rfl, hb⟩
  rw [HS.out]
  have B2 : Hid (Below w.heap.size w w2) := B1.out.trans (hb.mono B1.out.size)
  have M2 : Hid (Blk w2 w.heap.size (mgc m (.slice ua uk uc))) := M1.out.on hb
  have N2 : Hid (Blk w2 (w.heap.size + 1) [.int .i64 0, .int .i64 0]) := N1.out.on hb
  have C2 : Hid (Blk w2 (w.heap.size + 2) [.int .i64 0, .int .i64 0, .int .i64 0, .string ⟨#[]⟩, .string ⟨#[]⟩, .string ⟨#[]⟩, .string ⟨#[]⟩, .int .i64 0]) := C1.out.on hb
  clear hb M1 N1 C1 B1
  have c_w2_kind : w2.cell? ⟨w.heap.size, 0, none⟩ = some (.int .i64 m.kind) := M2.out.cell 0 _ rfl
  clear HS
  go_wp2_with fail
  refine (hb5_any' m.kind _).mono ?_
  rintro e w3 ⟨rfl, hb⟩
  rw [HB.out]
  have B3 : Hid (Below w.heap.size w w3) := B2.out.trans (hb.mono B2.out.size)
  have M3 : Hid (Blk w3 w.heap.size (mgc m (.slice ua uk uc))) := M2.out.on hb
  have N3 : Hid (Blk w3 (w.heap.size + 1) [.int .i64 0, .int .i64 0]) := N2.out.on hb
  have C3 : Hid (Blk w3 (w.heap.size + 2) [.int .i64 0, .int .i64 0, .int .i64 0, .string ⟨#[]⟩, .string ⟨#[]⟩, .string ⟨#[]⟩, .string ⟨#[]⟩, .int .i64 0]) := C2.out.on hb
  clear hb M2 N2 C2 B2
  have c_w3_kind : w3.cell? ⟨w.heap.size, 0, none⟩ = some (.int .i64 m.kind) := M3.out.cell 0 _ rfl
  have c_w3_st : w3.cell? ⟨w.heap.size, 7, none⟩ = some (.int .i64 m.st) := M3.out.cell 7 _ rfl
  have c_w3_p : w3.cell? ⟨w.heap.size, 5, none⟩ = some (.int .i64 m.p) := M3.out.cell 5 _ rfl
  have c_w3_q : w3.cell? ⟨w.heap.size, 6, none⟩ = some (.int .i64 m.q) := M3.out.cell 6 _ rfl
  have n_w3_0 : w3.cell? ⟨w.heap.size + 1, 0, none⟩ = some (.int .i64 0) := N3.out.cell 0 _ rfl
  have n_w3_1 : w3.cell? ⟨w.heap.size + 1, 1, none⟩ = some (.int .i64 0) := N3.out.cell 1 _ rfl
  clear HB
  go_wp2_with fail
  refine (sameBal5_any m.p m.q 0 0 _).mono ?_
  rintro e w4 ⟨rfl, hb⟩
  rw [hbp.out]
  have B4 : Hid (Below w.heap.size w w4) := B3.out.trans (hb.mono B3.out.size)
  have M4 : Hid (Blk w4 w.heap.size (mgc m (.slice ua uk uc))) := M3.out.on hb
  have N4 : Hid (Blk w4 (w.heap.size + 1) [.int .i64 0, .int .i64 0]) := N3.out.on hb
  have C4 : Hid (Blk w4 (w.heap.size + 2) [.int .i64 0, .int .i64 0, .int .i64 0, .string ⟨#[]⟩, .string ⟨#[]⟩, .string ⟨#[]⟩, .string ⟨#[]⟩, .int .i64 0]) := C3.out.on hb
  clear hb M3 N3 C3 B3
  have c_w4_kind : w4.cell? ⟨w.heap.size, 0, none⟩ = some (.int .i64 m.kind) := M4.out.cell 0 _ rfl
  have c_w4_st : w4.cell? ⟨w.heap.size, 7, none⟩ = some (.int .i64 m.st) := M4.out.cell 7 _ rfl
  obtain ⟨m_w4_0, m_w4_1, m_w4_2, m_w4_3, m_w4_4, m_w4_5, m_w4_6, m_w4_7⟩ := cells8 M4.out 9 rfl rfl rfl rfl rfl rfl rfl rfl
  obtain ⟨z_w4_0, z_w4_1, z_w4_2, z_w4_3, z_w4_4, z_w4_5, z_w4_6, z_w4_7⟩ := cells8 C4.out 0 rfl rfl rfl rfl rfl rfl rfl rfl
  have c_w4_sm : w4.cell? ⟨w.heap.size, 8, none⟩ = some (.bool bm) := by rw [← hbm.out]; exact M4.out.cell 8 _ rfl
  clear hbp
  cases bp with
  | false =>
    have HF : Hid (z = true) := by show _ = _; rw [HE.out]; simp
    clear HE
    go_wp2
    go_ret
    exact ⟨by rw [HF.out]; rfl, B4.out⟩
  | true =>
    by_cases hst : m.st = 0
    · have dst : (m.st != 0) = false := by simp [hst]
      have vst : Hid (bs = true) := by show _ = _; rw [← hbs.out]; simp [hst]
      rw [vst.out] at HE
      clear hst vst hbs
      clear hbm
      cases bm with
      | true =>
        have HF : Hid (z = true) := by show _ = _; rw [HE.out]; simp
        clear HE
        go_wp2
        go_ret
        exact ⟨by rw [HF.out]; rfl, B4.out⟩
      | false =>
        go_wp2_with fail
        refine (sameCmd_any m.c zeroC _).mono ?_
        rintro e w5 ⟨rfl, hb⟩
        rw [hbc.out]
        have B5 : Hid (Below w.heap.size w w5) := B4.out.trans (hb.mono B4.out.size)
        have M5 : Hid (Blk w5 w.heap.size (mgc m (.slice ua uk uc))) := M4.out.on hb
        have N5 : Hid (Blk w5 (w.heap.size + 1) [.int .i64 0, .int .i64 0]) := N4.out.on hb
        have C5 : Hid (Blk w5 (w.heap.size + 2) [.int .i64 0, .int .i64 0, .int .i64 0, .string ⟨#[]⟩, .string ⟨#[]⟩, .string ⟨#[]⟩, .string ⟨#[]⟩, .int .i64 0]) := C4.out.on hb
        clear hb M4 N4 C4 B4
        have c_w5_kind : w5.cell? ⟨w.heap.size, 0, none⟩ = some (.int .i64 m.kind) := M5.out.cell 0 _ rfl
        have c_w5_st : w5.cell? ⟨w.heap.size, 7, none⟩ = some (.int .i64 m.st) := M5.out.cell 7 _ rfl
        have c_w5_sq : w5.cell? ⟨w.heap.size, 17, none⟩ = some (.int .i64 m.sq) := M5.out.cell 17 _ rfl
        have c_w5_u : w5.cell? ⟨w.heap.size, 18, none⟩ = some (.slice ua uk uc) := M5.out.cell 18 _ rfl
        clear hbc
        cases bc with
        | false =>
          have HF : Hid (z = true) := by show _ = _; rw [HE.out]; simp
          clear HE
          go_wp2
          go_ret
          exact ⟨by rw [HF.out]; rfl, B5.out⟩
        | true =>
          by_cases hsq : m.sq = 0
          · have dsq : (m.sq != 0) = false := by simp [hsq]
            have vsq : Hid (bq = true) := by show _ = _; rw [← hbq.out]; simp [hsq]
            rw [vsq.out] at HE
            clear hsq vsq hbq
            rw [← HU.out] at hbl
            by_cases hle : uk = 0
            · have dle : ((uk : Int) != 0) = false := by simp [hle]
              have vle : Hid (bl = true) := by show _ = _; rw [← hbl.out]; simp [hle]
              rw [vle.out] at HE
              clear hle vle hbl HU
              have HF : Hid (z = false) := by show _ = _; rw [HE.out]; simp
              clear HE
              go_wp2
              go_ret
              exact ⟨by rw [HF.out]; rfl, B5.out⟩
            · have dle : ((uk : Int) != 0) = true := by simp [hle]
              have vle : Hid (bl = false) := by show _ = _; rw [← hbl.out]; simp [hle]
              rw [vle.out] at HE
              clear hle vle hbl HU
              have HF : Hid (z = true) := by show _ = _; rw [HE.out]; simp
              clear HE
              go_wp2
              go_ret
              exact ⟨by rw [HF.out]; rfl, B5.out⟩
          · have dsq : (m.sq != 0) = true := by simp [hsq]
            have vsq : Hid (bq = false) := by show _ = _; rw [← hbq.out]; simp [hsq]
            rw [vsq.out] at HE
            clear hsq vsq hbq
            have HF : Hid (z = true) := by show _ = _; rw [HE.out]; simp
            clear HE
            go_wp2
            go_ret
            exact ⟨by rw [HF.out]; rfl, B5.out⟩
    · have dst : (m.st != 0) = true := by simp [hst]
      have vst : Hid (bs = false) := by show _ = _; rw [← hbs.out]; simp [hst]
      rw [vst.out] at HE
      clear hst vst hbs
      have HF : Hid (z = true) := by show _ = _; rw [HE.out]; simp
      clear HE
      go_wp2
      go_ret
      exact ⟨by rw [HF.out]; rfl, B4.out⟩
set_option maxHeartbeats 4000000 in
set_option maxRecDepth 100000 in
theorem ex5_4 (m : Ms) (ua : Option Addr) (uk uc : Nat) (w : World) (h : m.kind = 5) : Calls Tryz.prog 25 #[.agg (mgc m (.slice ua uk uc)).toArray] w fun e w' => e = .returned (.bool (extraM m)) ∧ Below w.heap.size w w' := by
  have hc0 : hc5 m = true := by unfold hc5; simp [h]
  have hs0 : hs5 m = true := by unfold hs5; rw [hc0]; simp [h]
  have hb0 : hb5 m.kind = false := by unfold hb5; simp [h]
  have k7 : (m.kind == 7) = false := by simp [h]
  have k7' : (m.kind != 7) = true := by simp [h]
  have k8 : (m.kind != 8) = true := by simp [h]
  have HX : Hid (extraM m = (!(sib5 m.x m.y 0 0 && (sib5 m.p m.q 0 0 && ((m.st == 0) && (!m.sm)))))) := (exm_4 m h).2
  have HC := hide hc0
  have HS := hide hs0
  have HB := hide hb0
  clear h hc0 hs0 hb0
  obtain ⟨bx, hbx⟩ : ∃ b : Bool, Hid ((sib5 m.x m.y 0 0) = b) := ⟨_, rfl⟩
  obtain ⟨bp, hbp⟩ : ∃ b : Bool, Hid ((sib5 m.p m.q 0 0) = b) := ⟨_, rfl⟩
  obtain ⟨bs, hbs⟩ : ∃ b : Bool, Hid (((m.st == 0)) = b) := ⟨_, rfl⟩
  obtain ⟨bm, hbm⟩ : ∃ b : Bool, Hid ((m.sm) = b) := ⟨_, rfl⟩
  have HE : Hid (extraM m = (!(bx && (bp && (bs && (!bm)))))) := by show _ = _; rw [HX.out, hbx.out, hbp.out, hbs.out, hbm.out]
  clear HX
  obtain ⟨z, hz⟩ : ∃ z, Hid (extraM m = z) := ⟨_, rfl⟩
  rw [hz.out] at HE ⊢
  clear hz
  obtain ⟨X0, hX0⟩ : ∃ X, X = w.alloc (.cells (mgc m (.slice ua uk uc)).toArray 30) := ⟨_, rfl⟩
  obtain ⟨X1, hX1⟩ : ∃ X, X = X0.alloc (.cells #[.int .i64 0, .int .i64 0] 25) := ⟨_, rfl⟩
  obtain ⟨X, hX⟩ : ∃ X, X = X1.alloc (.cells #[.int .i64 0, .int .i64 0, .int .i64 0, .string ⟨#[]⟩, .string ⟨#[]⟩, .string ⟨#[]⟩, .string ⟨#[]⟩, .int .i64 0] 27) := ⟨_, rfl⟩
  have s0 : X0.heap.size = w.heap.size + 1 := by rw [hX0]; simp
  have s1 : X1.heap.size = w.heap.size + 2 := by rw [hX1]; simp [s0]
  have b0 : Below w.heap.size w X0 := by rw [hX0]; exact (Below.refl _ w).alloc (Nat.le_refl _) _
  have b1 : Below X0.heap.size X0 X1 := by rw [hX1]; exact (Below.refl _ _).alloc (Nat.le_refl _) _
  have b2 : Below X1.heap.size X1 X := by rw [hX]; exact (Below.refl _ _).alloc (Nat.le_refl _) _
  have BX : Hid (Below w.heap.size w X) := (b0.trans (b1.mono (by omega))).trans (b2.mono (by omega))
  have q0 : Blk X0 w.heap.size (mgc m (.slice ua uk uc)) := by rw [hX0]; exact blk_new w 30 (mgc m (.slice ua uk uc))
  have QM : Hid (Blk X w.heap.size (mgc m (.slice ua uk uc))) := (q0.on b1).on b2
  have q1 : Blk X1 X0.heap.size [.int .i64 0, .int .i64 0] := by rw [hX1]; exact blk_new X0 25 [.int .i64 0, .int .i64 0]
  rw [s0] at q1
  have QB : Hid (Blk X (w.heap.size + 1) [.int .i64 0, .int .i64 0]) := q1.on b2
  have q2 : Blk X X1.heap.size [.int .i64 0, .int .i64 0, .int .i64 0, .string ⟨#[]⟩, .string ⟨#[]⟩, .string ⟨#[]⟩, .string ⟨#[]⟩, .int .i64 0] := by rw [hX]; exact blk_new X1 27 [.int .i64 0, .int .i64 0, .int .i64 0, .string ⟨#[]⟩, .string ⟨#[]⟩, .string ⟨#[]⟩, .string ⟨#[]⟩, .int .i64 0]
  rw [s1] at q2
  have QC : Hid (Blk X (w.heap.size + 2) [.int .i64 0, .int .i64 0, .int .i64 0, .string ⟨#[]⟩, .string ⟨#[]⟩, .string ⟨#[]⟩, .string ⟨#[]⟩, .int .i64 0]) := q2
  have eX : Hid (((w.alloc (.cells (mgc m (.slice ua uk uc)).toArray 30)).alloc (.cells #[.int .i64 0, .int .i64 0] 25)).alloc (.cells #[.int .i64 0, .int .i64 0, .int .i64 0, .string ⟨#[]⟩, .string ⟨#[]⟩, .string ⟨#[]⟩, .string ⟨#[]⟩, .int .i64 0] 27) = X) := by rw [hX, hX1, hX0]; exact rfl
  clear hX hX1 hX0 s0 s1 b0 b1 b2 q0 q1 q2
  have c_X_kind : X.cell? ⟨w.heap.size, 0, none⟩ = some (.int .i64 m.kind) := QM.out.cell 0 _ rfl
  have c_X_st : X.cell? ⟨w.heap.size, 7, none⟩ = some (.int .i64 m.st) := QM.out.cell 7 _ rfl
  go_enter Tryz.func25, Tryz.ntmps25
  go_upto_region 3 with fail
  rw [eX.out]
  clear eX
  go_wp2_with (first | (refine wpList_load_mid rfl 30 _ rfl w.heap.size 0 rfl (mgc m (.slice ua uk uc)) _ QM.out.range Tryz.underlying30 rfl (by kernel_rfl) ?_))
  refine (hc5_any m (.slice ua uk uc) _).mono ?_
  rintro e w1 ⟨rfl, hb⟩
  rw [HC.out]
  have B1 : Hid (Below w.heap.size w w1) := BX.out.trans (hb.mono BX.out.size)
  have M1 : Hid (Blk w1 w.heap.size (mgc m (.slice ua uk uc))) := QM.out.on hb
  have N1 : Hid (Blk w1 (w.heap.size + 1) [.int .i64 0, .int .i64 0]) := QB.out.on hb
  have C1 : Hid (Blk w1 (w.heap.size + 2) [.int .i64 0, .int .i64 0, .int .i64 0, .string ⟨#[]⟩, .string ⟨#[]⟩, .string ⟨#[]⟩, .string ⟨#[]⟩, .int .i64 0]) := QC.out.on hb
  clear hb QM QB QC BX
  have c_w1_kind : w1.cell? ⟨w.heap.size, 0, none⟩ = some (.int .i64 m.kind) := M1.out.cell 0 _ rfl
  clear HC
  go_wp2_with (first | (refine wpList_load_mid rfl 30 _ rfl w.heap.size 0 rfl (mgc m (.slice ua uk uc)) _ M1.out.range Tryz.underlying30 rfl (by kernel_rfl) ?_))
  refine (hs5_any m (.slice ua uk uc) _).mono ?_
  rintro e w2 ⟨rfl, hb⟩
  rw [HS.out]
  have B2 : Hid (Below w.heap.size w w2) := B1.out.trans (hb.mono B1.out.size)
  have M2 : Hid (Blk w2 w.heap.size (mgc m (.slice ua uk uc))) := M1.out.on hb
  have N2 : Hid (Blk w2 (w.heap.size + 1) [.int .i64 0, .int .i64 0]) := N1.out.on hb
  have C2 : Hid (Blk w2 (w.heap.size + 2) [.int .i64 0, .int .i64 0, .int .i64 0, .string ⟨#[]⟩, .string ⟨#[]⟩, .string ⟨#[]⟩, .string ⟨#[]⟩, .int .i64 0]) := C1.out.on hb
  clear hb M1 N1 C1 B1
  have c_w2_kind : w2.cell? ⟨w.heap.size, 0, none⟩ = some (.int .i64 m.kind) := M2.out.cell 0 _ rfl
  clear HS
  go_wp2_with fail
  refine (hb5_any' m.kind _).mono ?_
  rintro e w3 ⟨rfl, hb⟩
  rw [HB.out]
  have B3 : Hid (Below w.heap.size w w3) := B2.out.trans (hb.mono B2.out.size)
  have M3 : Hid (Blk w3 w.heap.size (mgc m (.slice ua uk uc))) := M2.out.on hb
  have N3 : Hid (Blk w3 (w.heap.size + 1) [.int .i64 0, .int .i64 0]) := N2.out.on hb
  have C3 : Hid (Blk w3 (w.heap.size + 2) [.int .i64 0, .int .i64 0, .int .i64 0, .string ⟨#[]⟩, .string ⟨#[]⟩, .string ⟨#[]⟩, .string ⟨#[]⟩, .int .i64 0]) := C2.out.on hb
  clear hb M2 N2 C2 B2
  have c_w3_kind : w3.cell? ⟨w.heap.size, 0, none⟩ = some (.int .i64 m.kind) := M3.out.cell 0 _ rfl
  have c_w3_st : w3.cell? ⟨w.heap.size, 7, none⟩ = some (.int .i64 m.st) := M3.out.cell 7 _ rfl
  have c_w3_x : w3.cell? ⟨w.heap.size, 3, none⟩ = some (.int .i64 m.x) := M3.out.cell 3 _ rfl
  have c_w3_y : w3.cell? ⟨w.heap.size, 4, none⟩ = some (.int .i64 m.y) := M3.out.cell 4 _ rfl
  have n_w3_0 : w3.cell? ⟨w.heap.size + 1, 0, none⟩ = some (.int .i64 0) := N3.out.cell 0 _ rfl
  have n_w3_1 : w3.cell? ⟨w.heap.size + 1, 1, none⟩ = some (.int .i64 0) := N3.out.cell 1 _ rfl
  clear HB
  go_wp2_with fail
  refine (sameBal5_any m.x m.y 0 0 _).mono ?_
  rintro e w4 ⟨rfl, hb⟩
  rw [hbx.out]
  have B4 : Hid (Below w.heap.size w w4) := B3.out.trans (hb.mono B3.out.size)
  have M4 : Hid (Blk w4 w.heap.size (mgc m (.slice ua uk uc))) := M3.out.on hb
  have N4 : Hid (Blk w4 (w.heap.size + 1) [.int .i64 0, .int .i64 0]) := N3.out.on hb
  have C4 : Hid (Blk w4 (w.heap.size + 2) [.int .i64 0, .int .i64 0, .int .i64 0, .string ⟨#[]⟩, .string ⟨#[]⟩, .string ⟨#[]⟩, .string ⟨#[]⟩, .int .i64 0]) := C3.out.on hb
  clear hb M3 N3 C3 B3
  have c_w4_kind : w4.cell? ⟨w.heap.size, 0, none⟩ = some (.int .i64 m.kind) := M4.out.cell 0 _ rfl
  have c_w4_st : w4.cell? ⟨w.heap.size, 7, none⟩ = some (.int .i64 m.st) := M4.out.cell 7 _ rfl
  have c_w4_p : w4.cell? ⟨w.heap.size, 5, none⟩ = some (.int .i64 m.p) := M4.out.cell 5 _ rfl
  have c_w4_q : w4.cell? ⟨w.heap.size, 6, none⟩ = some (.int .i64 m.q) := M4.out.cell 6 _ rfl
  have n_w4_0 : w4.cell? ⟨w.heap.size + 1, 0, none⟩ = some (.int .i64 0) := N4.out.cell 0 _ rfl
  have n_w4_1 : w4.cell? ⟨w.heap.size + 1, 1, none⟩ = some (.int .i64 0) := N4.out.cell 1 _ rfl
  clear hbx
  cases bx with
  | false =>
    have HF : Hid (z = true) := by show _ = _; rw [HE.out]; simp
    clear HE
    go_wp2
    go_ret
    exact ⟨by rw [HF.out]; rfl, B4.out⟩
  | true =>
    go_wp2_with fail
    refine (sameBal5_any m.p m.q 0 0 _).mono ?_
    rintro e w5 ⟨rfl, hb⟩
    rw [hbp.out]
    have B5 : Hid (Below w.heap.size w w5) := B4.out.trans (hb.mono B4.out.size)
    have M5 : Hid (Blk w5 w.heap.size (mgc m (.slice ua uk uc))) := M4.out.on hb
    have N5 : Hid (Blk w5 (w.heap.size + 1) [.int .i64 0, .int .i64 0]) := N4.out.on hb
    have C5 : Hid (Blk w5 (w.heap.size + 2) [.int .i64 0, .int .i64 0, .int .i64 0, .string ⟨#[]⟩, .string ⟨#[]⟩, .string ⟨#[]⟩, .string ⟨#[]⟩, .int .i64 0]) := C4.out.on hb
    clear hb M4 N4 C4 B4
    have c_w5_kind : w5.cell? ⟨w.heap.size, 0, none⟩ = some (.int .i64 m.kind) := M5.out.cell 0 _ rfl
    have c_w5_st : w5.cell? ⟨w.heap.size, 7, none⟩ = some (.int .i64 m.st) := M5.out.cell 7 _ rfl
    have c_w5_sm : w5.cell? ⟨w.heap.size, 8, none⟩ = some (.bool bm) := by rw [← hbm.out]; exact M5.out.cell 8 _ rfl
    clear hbp
    cases bp with
    | false =>
      have HF : Hid (z = true) := by show _ = _; rw [HE.out]; simp
      clear HE
      go_wp2
      go_ret
      exact ⟨by rw [HF.out]; rfl, B5.out⟩
    | true =>
      by_cases hst : m.st = 0
      · have dst : (m.st != 0) = false := by simp [hst]
        have vst : Hid (bs = true) := by show _ = _; rw [← hbs.out]; simp [hst]
        rw [vst.out] at HE
        clear hst vst hbs
        clear hbm
        cases bm with
        | true =>
          have HF : Hid (z = true) := by show _ = _; rw [HE.out]; simp
          clear HE
          go_wp2
          go_ret
          exact ⟨by rw [HF.out]; rfl, B5.out⟩
        | false =>
          have HF : Hid (z = false) := by show _ = _; rw [HE.out]; simp
          clear HE
          go_wp2
          go_ret
          exact ⟨by rw [HF.out]; rfl, B5.out⟩
      · have dst : (m.st != 0) = true := by simp [hst]
        have vst : Hid (bs = false) := by show _ = _; rw [← hbs.out]; simp [hst]
        rw [vst.out] at HE
        clear hst vst hbs
        have HF : Hid (z = true) := by show _ = _; rw [HE.out]; simp
        clear HE
        go_wp2
        go_ret
        exact ⟨by rw [HF.out]; rfl, B5.out⟩
set_option maxHeartbeats 4000000 in
set_option maxRecDepth 100000 in
theorem ex5_5 (m : Ms) (ua : Option Addr) (uk uc : Nat) (w : World) (hu : uk = m.dl.length) (h : m.kind = 7 ∧ m.st = 0) : Calls Tryz.prog 25 #[.agg (mgc m (.slice ua uk uc)).toArray] w fun e w' => e = .returned (.bool (extraM m)) ∧ Below w.heap.size w w' := by
  have hc0 : hc5 m = false := by unfold hc5; simp [h]
  have hs0 : hs5 m = false := by unfold hs5; rw [hc0]; simp [h]
  have hb0 : hb5 m.kind = true := by unfold hb5; simp [h]
  have k7 : (m.kind == 7) = true := by simp [h.1]
  have k7' : (m.kind != 7) = false := by simp [h.1]
  have k8 : (m.kind != 8) = true := by simp [h.1]
  have ks : (m.st != 0) = false := by simp [h.2]
  have HX : Hid (extraM m = (!(sib5 m.p m.q 0 0 && (!m.sm && (sameC m.c zeroC && ((m.sq == 0) && ((m.dl.length == 0)))))))) := (exm_5 m h).2
  have HC := hide hc0
  have HS := hide hs0
  have HB := hide hb0
  have HU := hide hu
  clear h hc0 hs0 hb0 hu
  obtain ⟨bp, hbp⟩ : ∃ b : Bool, Hid ((sib5 m.p m.q 0 0) = b) := ⟨_, rfl⟩
  obtain ⟨bm, hbm⟩ : ∃ b : Bool, Hid ((m.sm) = b) := ⟨_, rfl⟩
  obtain ⟨bc, hbc⟩ : ∃ b : Bool, Hid ((sameC m.c zeroC) = b) := ⟨_, rfl⟩
  obtain ⟨bq, hbq⟩ : ∃ b : Bool, Hid (((m.sq == 0)) = b) := ⟨_, rfl⟩
  obtain ⟨bl, hbl⟩ : ∃ b : Bool, Hid (((m.dl.length == 0)) = b) := ⟨_, rfl⟩
  have HE : Hid (extraM m = (!(bp && (!bm && (bc && (bq && (bl))))))) := by show _ = _; rw [HX.out, hbp.out, hbm.out, hbc.out, hbq.out, hbl.out]
  clear HX
  obtain ⟨z, hz⟩ : ∃ z, Hid (extraM m = z) := ⟨_, rfl⟩
  rw [hz.out] at HE ⊢
  clear hz
  obtain ⟨X0, hX0⟩ : ∃ X, X = w.alloc (.cells (mgc m (.slice ua uk uc)).toArray 30) := ⟨_, rfl⟩
  obtain ⟨X1, hX1⟩ : ∃ X, X = X0.alloc (.cells #[.int .i64 0, .int .i64 0] 25) := ⟨_, rfl⟩
  obtain ⟨X, hX⟩ : ∃ X, X = X1.alloc (.cells #[.int .i64 0, .int .i64 0, .int .i64 0, .string ⟨#[]⟩, .string ⟨#[]⟩, .string ⟨#[]⟩, .string ⟨#[]⟩, .int .i64 0] 27) := ⟨_, rfl⟩
  have s0 : X0.heap.size = w.heap.size + 1 := by rw [hX0]; simp
  have s1 : X1.heap.size = w.heap.size + 2 := by rw [hX1]; simp [s0]
  have b0 : Below w.heap.size w X0 := by rw [hX0]; exact (Below.refl _ w).alloc (Nat.le_refl _) _
  have b1 : Below X0.heap.size X0 X1 := by rw [hX1]; exact (Below.refl _ _).alloc (Nat.le_refl _) _
  have b2 : Below X1.heap.size X1 X := by rw [hX]; exact (Below.refl _ _).alloc (Nat.le_refl _) _
  have BX : Hid (Below w.heap.size w X) := (b0.trans (b1.mono (by omega))).trans (b2.mono (by omega))
  have q0 : Blk X0 w.heap.size (mgc m (.slice ua uk uc)) := by rw [hX0]; exact blk_new w 30 (mgc m (.slice ua uk uc))
  have QM : Hid (Blk X w.heap.size (mgc m (.slice ua uk uc))) := (q0.on b1).on b2
  have q1 : Blk X1 X0.heap.size [.int .i64 0, .int .i64 0] := by rw [hX1]; exact blk_new X0 25 [.int .i64 0, .int .i64 0]
  rw [s0] at q1
  have QB : Hid (Blk X (w.heap.size + 1) [.int .i64 0, .int .i64 0]) := q1.on b2
  have q2 : Blk X X1.heap.size [.int .i64 0, .int .i64 0, .int .i64 0, .string ⟨#[]⟩, .string ⟨#[]⟩, .string ⟨#[]⟩, .string ⟨#[]⟩, .int .i64 0] := by rw [hX]; exact blk_new X1 27 [.int .i64 0, .int .i64 0, .int .i64 0, .string ⟨#[]⟩, .string ⟨#[]⟩, .string ⟨#[]⟩, .string ⟨#[]⟩, .int .i64 0]
  rw [s1] at q2
  have QC : Hid (Blk X (w.heap.size + 2) [.int .i64 0, .int .i64 0, .int .i64 0, .string ⟨#[]⟩, .string ⟨#[]⟩, .string ⟨#[]⟩, .string ⟨#[]⟩, .int .i64 0]) := q2
  have eX : Hid (((w.alloc (.cells (mgc m (.slice ua uk uc)).toArray 30)).alloc (.cells #[.int .i64 0, .int .i64 0] 25)).alloc (.cells #[.int .i64 0, .int .i64 0, .int .i64 0, .string ⟨#[]⟩, .string ⟨#[]⟩, .string ⟨#[]⟩, .string ⟨#[]⟩, .int .i64 0] 27) = X) := by rw [hX, hX1, hX0]; exact rfl
  clear hX hX1 hX0 s0 s1 b0 b1 b2 q0 q1 q2
  have c_X_kind : X.cell? ⟨w.heap.size, 0, none⟩ = some (.int .i64 m.kind) := QM.out.cell 0 _ rfl
  have c_X_st : X.cell? ⟨w.heap.size, 7, none⟩ = some (.int .i64 m.st) := QM.out.cell 7 _ rfl
  go_enter Tryz.func25, Tryz.ntmps25
  go_upto_region 3 with fail
  rw [eX.out]
  clear eX
  go_wp2_with (first | (refine wpList_load_mid rfl 30 _ rfl w.heap.size 0 rfl (mgc m (.slice ua uk uc)) _ QM.out.range Tryz.underlying30 rfl (by kernel_rfl) ?_))
  refine (hc5_any m (.slice ua uk uc) _).mono ?_
  rintro e w1 ⟨rfl, hb⟩
  rw [HC.out]
  have B1 : Hid (Below w.heap.size w w1) := BX.out.trans (hb.mono BX.out.size)
  have M1 : Hid (Blk w1 w.heap.size (mgc m (.slice ua uk uc))) := QM.out.on hb
  have N1 : Hid (Blk w1 (w.heap.size + 1) [.int .i64 0, .int .i64 0]) := QB.out.on hb
  have C1 : Hid (Blk w1 (w.heap.size + 2) [.int .i64 0, .int .i64 0, .int .i64 0, .string ⟨#[]⟩, .string ⟨#[]⟩, .string ⟨#[]⟩, .string ⟨#[]⟩, .int .i64 0]) := QC.out.on hb
  clear hb QM QB QC BX
  have c_w1_kind : w1.cell? ⟨w.heap.size, 0, none⟩ = some (.int .i64 m.kind) := M1.out.cell 0 _ rfl
  clear HC
  go_wp2_with (first | (refine wpList_load_mid rfl 30 _ rfl w.heap.size 0 rfl (mgc m (.slice ua uk uc)) _ M1.out.range Tryz.underlying30 rfl (by kernel_rfl) ?_))
  refine (hs5_any m (.slice ua uk uc) _).mono ?_
  rintro e w2 ⟨rfl, hb⟩
  rw [HS.out]
  have B2 : Hid (Below w.heap.size w w2) := B1.out.trans (hb.mono B1.out.size)
  have M2 : Hid (Blk w2 w.heap.size (mgc m (.slice ua uk uc))) := M1.out.on hb
  have N2 : Hid (Blk w2 (w.heap.size + 1) [.int .i64 0, .int .i64 0]) := N1.out.on hb
  have C2 : Hid (Blk w2 (w.heap.size + 2) [.int .i64 0, .int .i64 0, .int .i64 0, .string ⟨#[]⟩, .string ⟨#[]⟩, .string ⟨#[]⟩, .string ⟨#[]⟩, .int .i64 0]) := C1.out.on hb
  clear hb M1 N1 C1 B1
  have c_w2_kind : w2.cell? ⟨w.heap.size, 0, none⟩ = some (.int .i64 m.kind) := M2.out.cell 0 _ rfl
  clear HS
  go_wp2_with fail
  refine (hb5_any' m.kind _).mono ?_
  rintro e w3 ⟨rfl, hb⟩
  rw [HB.out]
  have B3 : Hid (Below w.heap.size w w3) := B2.out.trans (hb.mono B2.out.size)
  have M3 : Hid (Blk w3 w.heap.size (mgc m (.slice ua uk uc))) := M2.out.on hb
  have N3 : Hid (Blk w3 (w.heap.size + 1) [.int .i64 0, .int .i64 0]) := N2.out.on hb
  have C3 : Hid (Blk w3 (w.heap.size + 2) [.int .i64 0, .int .i64 0, .int .i64 0, .string ⟨#[]⟩, .string ⟨#[]⟩, .string ⟨#[]⟩, .string ⟨#[]⟩, .int .i64 0]) := C2.out.on hb
  clear hb M2 N2 C2 B2
  have c_w3_kind : w3.cell? ⟨w.heap.size, 0, none⟩ = some (.int .i64 m.kind) := M3.out.cell 0 _ rfl
  have c_w3_st : w3.cell? ⟨w.heap.size, 7, none⟩ = some (.int .i64 m.st) := M3.out.cell 7 _ rfl
  have c_w3_p : w3.cell? ⟨w.heap.size, 5, none⟩ = some (.int .i64 m.p) := M3.out.cell 5 _ rfl
  have c_w3_q : w3.cell? ⟨w.heap.size, 6, none⟩ = some (.int .i64 m.q) := M3.out.cell 6 _ rfl
  have n_w3_0 : w3.cell? ⟨w.heap.size + 1, 0, none⟩ = some (.int .i64 0) := N3.out.cell 0 _ rfl
  have n_w3_1 : w3.cell? ⟨w.heap.size + 1, 1, none⟩ = some (.int .i64 0) := N3.out.cell 1 _ rfl
  clear HB
  go_wp2_with fail
  refine (sameBal5_any m.p m.q 0 0 _).mono ?_
  rintro e w4 ⟨rfl, hb⟩
  rw [hbp.out]
  have B4 : Hid (Below w.heap.size w w4) := B3.out.trans (hb.mono B3.out.size)
  have M4 : Hid (Blk w4 w.heap.size (mgc m (.slice ua uk uc))) := M3.out.on hb
  have N4 : Hid (Blk w4 (w.heap.size + 1) [.int .i64 0, .int .i64 0]) := N3.out.on hb
  have C4 : Hid (Blk w4 (w.heap.size + 2) [.int .i64 0, .int .i64 0, .int .i64 0, .string ⟨#[]⟩, .string ⟨#[]⟩, .string ⟨#[]⟩, .string ⟨#[]⟩, .int .i64 0]) := C3.out.on hb
  clear hb M3 N3 C3 B3
  have c_w4_kind : w4.cell? ⟨w.heap.size, 0, none⟩ = some (.int .i64 m.kind) := M4.out.cell 0 _ rfl
  have c_w4_st : w4.cell? ⟨w.heap.size, 7, none⟩ = some (.int .i64 m.st) := M4.out.cell 7 _ rfl
  obtain ⟨m_w4_0, m_w4_1, m_w4_2, m_w4_3, m_w4_4, m_w4_5, m_w4_6, m_w4_7⟩ := cells8 M4.out 9 rfl rfl rfl rfl rfl rfl rfl rfl
  obtain ⟨z_w4_0, z_w4_1, z_w4_2, z_w4_3, z_w4_4, z_w4_5, z_w4_6, z_w4_7⟩ := cells8 C4.out 0 rfl rfl rfl rfl rfl rfl rfl rfl
  have c_w4_sm : w4.cell? ⟨w.heap.size, 8, none⟩ = some (.bool bm) := by rw [← hbm.out]; exact M4.out.cell 8 _ rfl
  clear hbp
  cases bp with
  | false =>
    have HF : Hid (z = true) := by show _ = _; rw [HE.out]; simp
    clear HE
    go_wp2
    go_ret
    exact ⟨by rw [HF.out]; rfl, B4.out⟩
  | true =>
    clear hbm
    cases bm with
    | true =>
      have HF : Hid (z = true) := by show _ = _; rw [HE.out]; simp
      clear HE
      go_wp2
      go_ret
      exact ⟨by rw [HF.out]; rfl, B4.out⟩
    | false =>
      go_wp2_with fail
      refine (sameCmd_any m.c zeroC _).mono ?_
      rintro e w5 ⟨rfl, hb⟩
      rw [hbc.out]
      have B5 : Hid (Below w.heap.size w w5) := B4.out.trans (hb.mono B4.out.size)
      have M5 : Hid (Blk w5 w.heap.size (mgc m (.slice ua uk uc))) := M4.out.on hb
      have N5 : Hid (Blk w5 (w.heap.size + 1) [.int .i64 0, .int .i64 0]) := N4.out.on hb
      have C5 : Hid (Blk w5 (w.heap.size + 2) [.int .i64 0, .int .i64 0, .int .i64 0, .string ⟨#[]⟩, .string ⟨#[]⟩, .string ⟨#[]⟩, .string ⟨#[]⟩, .int .i64 0]) := C4.out.on hb
      clear hb M4 N4 C4 B4
      have c_w5_kind : w5.cell? ⟨w.heap.size, 0, none⟩ = some (.int .i64 m.kind) := M5.out.cell 0 _ rfl
      have c_w5_st : w5.cell? ⟨w.heap.size, 7, none⟩ = some (.int .i64 m.st) := M5.out.cell 7 _ rfl
      have c_w5_sq : w5.cell? ⟨w.heap.size, 17, none⟩ = some (.int .i64 m.sq) := M5.out.cell 17 _ rfl
      have c_w5_u : w5.cell? ⟨w.heap.size, 18, none⟩ = some (.slice ua uk uc) := M5.out.cell 18 _ rfl
      clear hbc
      cases bc with
      | false =>
        have HF : Hid (z = true) := by show _ = _; rw [HE.out]; simp
        clear HE
        go_wp2
        go_ret
        exact ⟨by rw [HF.out]; rfl, B5.out⟩
      | true =>
        by_cases hsq : m.sq = 0
        · have dsq : (m.sq != 0) = false := by simp [hsq]
          have vsq : Hid (bq = true) := by show _ = _; rw [← hbq.out]; simp [hsq]
          rw [vsq.out] at HE
          clear hsq vsq hbq
          rw [← HU.out] at hbl
          by_cases hle : uk = 0
          · have dle : ((uk : Int) != 0) = false := by simp [hle]
            have vle : Hid (bl = true) := by show _ = _; rw [← hbl.out]; simp [hle]
            rw [vle.out] at HE
            clear hle vle hbl HU
            have HF : Hid (z = false) := by show _ = _; rw [HE.out]; simp
            clear HE
            go_wp2
            go_ret
            exact ⟨by rw [HF.out]; rfl, B5.out⟩
          · have dle : ((uk : Int) != 0) = true := by simp [hle]
            have vle : Hid (bl = false) := by show _ = _; rw [← hbl.out]; simp [hle]
            rw [vle.out] at HE
            clear hle vle hbl HU
            have HF : Hid (z = true) := by show _ = _; rw [HE.out]; simp
            clear HE
            go_wp2
            go_ret
            exact ⟨by rw [HF.out]; rfl, B5.out⟩
        · have dsq : (m.sq != 0) = true := by simp [hsq]
          have vsq : Hid (bq = false) := by show _ = _; rw [← hbq.out]; simp [hsq]
          rw [vsq.out] at HE
          clear hsq vsq hbq
          have HF : Hid (z = true) := by show _ = _; rw [HE.out]; simp
          clear HE
          go_wp2
          go_ret
          exact ⟨by rw [HF.out]; rfl, B5.out⟩
set_option maxHeartbeats 4000000 in
set_option maxRecDepth 100000 in
theorem ex5_6 (m : Ms) (ua : Option Addr) (uk uc : Nat) (w : World) (h : m.kind = 7 ∧ m.st ≠ 0) : Calls Tryz.prog 25 #[.agg (mgc m (.slice ua uk uc)).toArray] w fun e w' => e = .returned (.bool (extraM m)) ∧ Below w.heap.size w w' := by
  have hc0 : hc5 m = true := by unfold hc5; simp [h]
  have hs0 : hs5 m = true := by unfold hs5; rw [hc0]; simp [h]
  have hb0 : hb5 m.kind = true := by unfold hb5; simp [h]
  have k7 : (m.kind == 7) = true := by simp [h.1]
  have k7' : (m.kind != 7) = false := by simp [h.1]
  have k8 : (m.kind != 8) = true := by simp [h.1]
  have ks : (m.st != 0) = true := by simp [h.2]
  have HX : Hid (extraM m = (false)) := (exm_6 m h).2
  have HC := hide hc0
  have HS := hide hs0
  have HB := hide hb0
  clear h hc0 hs0 hb0
  have HE : Hid (extraM m = false) := HX
  clear HX
  obtain ⟨z, hz⟩ : ∃ z, Hid (extraM m = z) := ⟨_, rfl⟩
  rw [hz.out] at HE ⊢
  clear hz
  obtain ⟨X0, hX0⟩ : ∃ X, X = w.alloc (.cells (mgc m (.slice ua uk uc)).toArray 30) := ⟨_, rfl⟩
  obtain ⟨X1, hX1⟩ : ∃ X, X = X0.alloc (.cells #[.int .i64 0, .int .i64 0] 25) := ⟨_, rfl⟩
  obtain ⟨X, hX⟩ : ∃ X, X = X1.alloc (.cells #[.int .i64 0, .int .i64 0, .int .i64 0, .string ⟨#[]⟩, .string ⟨#[]⟩, .string ⟨#[]⟩, .string ⟨#[]⟩, .int .i64 0] 27) := ⟨_, rfl⟩
  have s0 : X0.heap.size = w.heap.size + 1 := by rw [hX0]; simp
  have s1 : X1.heap.size = w.heap.size + 2 := by rw [hX1]; simp [s0]
  have b0 : Below w.heap.size w X0 := by rw [hX0]; exact (Below.refl _ w).alloc (Nat.le_refl _) _
  have b1 : Below X0.heap.size X0 X1 := by rw [hX1]; exact (Below.refl _ _).alloc (Nat.le_refl _) _
  have b2 : Below X1.heap.size X1 X := by rw [hX]; exact (Below.refl _ _).alloc (Nat.le_refl _) _
  have BX : Hid (Below w.heap.size w X) := (b0.trans (b1.mono (by omega))).trans (b2.mono (by omega))
  have q0 : Blk X0 w.heap.size (mgc m (.slice ua uk uc)) := by rw [hX0]; exact blk_new w 30 (mgc m (.slice ua uk uc))
  have QM : Hid (Blk X w.heap.size (mgc m (.slice ua uk uc))) := (q0.on b1).on b2
  have q1 : Blk X1 X0.heap.size [.int .i64 0, .int .i64 0] := by rw [hX1]; exact blk_new X0 25 [.int .i64 0, .int .i64 0]
  rw [s0] at q1
  have QB : Hid (Blk X (w.heap.size + 1) [.int .i64 0, .int .i64 0]) := q1.on b2
  have q2 : Blk X X1.heap.size [.int .i64 0, .int .i64 0, .int .i64 0, .string ⟨#[]⟩, .string ⟨#[]⟩, .string ⟨#[]⟩, .string ⟨#[]⟩, .int .i64 0] := by rw [hX]; exact blk_new X1 27 [.int .i64 0, .int .i64 0, .int .i64 0, .string ⟨#[]⟩, .string ⟨#[]⟩, .string ⟨#[]⟩, .string ⟨#[]⟩, .int .i64 0]
  rw [s1] at q2
  have QC : Hid (Blk X (w.heap.size + 2) [.int .i64 0, .int .i64 0, .int .i64 0, .string ⟨#[]⟩, .string ⟨#[]⟩, .string ⟨#[]⟩, .string ⟨#[]⟩, .int .i64 0]) := q2
  have eX : Hid (((w.alloc (.cells (mgc m (.slice ua uk uc)).toArray 30)).alloc (.cells #[.int .i64 0, .int .i64 0] 25)).alloc (.cells #[.int .i64 0, .int .i64 0, .int .i64 0, .string ⟨#[]⟩, .string ⟨#[]⟩, .string ⟨#[]⟩, .string ⟨#[]⟩, .int .i64 0] 27) = X) := by rw [hX, hX1, hX0]; exact rfl
  clear hX hX1 hX0 s0 s1 b0 b1 b2 q0 q1 q2
  have c_X_kind : X.cell? ⟨w.heap.size, 0, none⟩ = some (.int .i64 m.kind) := QM.out.cell 0 _ rfl
  have c_X_st : X.cell? ⟨w.heap.size, 7, none⟩ = some (.int .i64 m.st) := QM.out.cell 7 _ rfl
  go_enter Tryz.func25, Tryz.ntmps25
  go_upto_region 3 with fail
  rw [eX.out]
  clear eX
  go_wp2_with (first | (refine wpList_load_mid rfl 30 _ rfl w.heap.size 0 rfl (mgc m (.slice ua uk uc)) _ QM.out.range Tryz.underlying30 rfl (by kernel_rfl) ?_))
  refine (hc5_any m (.slice ua uk uc) _).mono ?_
  rintro e w1 ⟨rfl, hb⟩
  rw [HC.out]
  have B1 : Hid (Below w.heap.size w w1) := BX.out.trans (hb.mono BX.out.size)
  have M1 : Hid (Blk w1 w.heap.size (mgc m (.slice ua uk uc))) := QM.out.on hb
  have N1 : Hid (Blk w1 (w.heap.size + 1) [.int .i64 0, .int .i64 0]) := QB.out.on hb
  have C1 : Hid (Blk w1 (w.heap.size + 2) [.int .i64 0, .int .i64 0, .int .i64 0, .string ⟨#[]⟩, .string ⟨#[]⟩, .string ⟨#[]⟩, .string ⟨#[]⟩, .int .i64 0]) := QC.out.on hb
  clear hb QM QB QC BX
  have c_w1_kind : w1.cell? ⟨w.heap.size, 0, none⟩ = some (.int .i64 m.kind) := M1.out.cell 0 _ rfl
  clear HC
  go_wp2_with (first | (refine wpList_load_mid rfl 30 _ rfl w.heap.size 0 rfl (mgc m (.slice ua uk uc)) _ M1.out.range Tryz.underlying30 rfl (by kernel_rfl) ?_))
  refine (hs5_any m (.slice ua uk uc) _).mono ?_
  rintro e w2 ⟨rfl, hb⟩
  rw [HS.out]
  have B2 : Hid (Below w.heap.size w w2) := B1.out.trans (hb.mono B1.out.size)
  have M2 : Hid (Blk w2 w.heap.size (mgc m (.slice ua uk uc))) := M1.out.on hb
  have N2 : Hid (Blk w2 (w.heap.size + 1) [.int .i64 0, .int .i64 0]) := N1.out.on hb
  have C2 : Hid (Blk w2 (w.heap.size + 2) [.int .i64 0, .int .i64 0, .int .i64 0, .string ⟨#[]⟩, .string ⟨#[]⟩, .string ⟨#[]⟩, .string ⟨#[]⟩, .int .i64 0]) := C1.out.on hb
  clear hb M1 N1 C1 B1
  have c_w2_kind : w2.cell? ⟨w.heap.size, 0, none⟩ = some (.int .i64 m.kind) := M2.out.cell 0 _ rfl
  clear HS
  go_wp2_with fail
  refine (hb5_any' m.kind _).mono ?_
  rintro e w3 ⟨rfl, hb⟩
  rw [HB.out]
  have B3 : Hid (Below w.heap.size w w3) := B2.out.trans (hb.mono B2.out.size)
  have M3 : Hid (Blk w3 w.heap.size (mgc m (.slice ua uk uc))) := M2.out.on hb
  have N3 : Hid (Blk w3 (w.heap.size + 1) [.int .i64 0, .int .i64 0]) := N2.out.on hb
  have C3 : Hid (Blk w3 (w.heap.size + 2) [.int .i64 0, .int .i64 0, .int .i64 0, .string ⟨#[]⟩, .string ⟨#[]⟩, .string ⟨#[]⟩, .string ⟨#[]⟩, .int .i64 0]) := C2.out.on hb
  clear hb M2 N2 C2 B2
  have c_w3_kind : w3.cell? ⟨w.heap.size, 0, none⟩ = some (.int .i64 m.kind) := M3.out.cell 0 _ rfl
  have c_w3_st : w3.cell? ⟨w.heap.size, 7, none⟩ = some (.int .i64 m.st) := M3.out.cell 7 _ rfl
  clear HB
  have HF : Hid (z = false) := by show _ = _; rw [HE.out]
  clear HE
  go_wp2
  go_ret
  exact ⟨by rw [HF.out]; rfl, B3.out⟩
set_option maxHeartbeats 4000000 in
set_option maxRecDepth 100000 in
theorem ex5_7 (m : Ms) (ua : Option Addr) (uk uc : Nat) (w : World) (hu : uk = m.dl.length) (h : m.kind = 8) : Calls Tryz.prog 25 #[.agg (mgc m (.slice ua uk uc)).toArray] w fun e w' => e = .returned (.bool (extraM m)) ∧ Below w.heap.size w w' := by
  have hc0 : hc5 m = false := by unfold hc5; simp [h]
  have hs0 : hs5 m = false := by unfold hs5; rw [hc0]; simp [h]
  have hb0 : hb5 m.kind = true := by unfold hb5; simp [h]
  have k7 : (m.kind == 7) = false := by simp [h]
  have k7' : (m.kind != 7) = true := by simp [h]
  have k8 : (m.kind != 8) = false := by simp [h]
  have HX : Hid (extraM m = (!((m.st == 0) && (!m.sm && (sameC m.c zeroC && ((m.sq == 0) && ((m.dl.length == 0)))))))) := (exm_7 m h).2
  have HC := hide hc0
  have HS := hide hs0
  have HB := hide hb0
  have HU := hide hu
  clear h hc0 hs0 hb0 hu
  obtain ⟨bs, hbs⟩ : ∃ b : Bool, Hid (((m.st == 0)) = b) := ⟨_, rfl⟩
  obtain ⟨bm, hbm⟩ : ∃ b : Bool, Hid ((m.sm) = b) := ⟨_, rfl⟩
  obtain ⟨bc, hbc⟩ : ∃ b : Bool, Hid ((sameC m.c zeroC) = b) := ⟨_, rfl⟩
  obtain ⟨bq, hbq⟩ : ∃ b : Bool, Hid (((m.sq == 0)) = b) := ⟨_, rfl⟩
  obtain ⟨bl, hbl⟩ : ∃ b : Bool, Hid (((m.dl.length == 0)) = b) := ⟨_, rfl⟩
  have HE : Hid (extraM m = (!(bs && (!bm && (bc && (bq && (bl))))))) := by show _ = _; rw [HX.out, hbs.out, hbm.out, hbc.out, hbq.out, hbl.out]
  clear HX
  obtain ⟨z, hz⟩ : ∃ z, Hid (extraM m = z) := ⟨_, rfl⟩
  rw [hz.out] at HE ⊢
  clear hz
  obtain ⟨X0, hX0⟩ : ∃ X, X = w.alloc (.cells (mgc m (.slice ua uk uc)).toArray 30) := ⟨_, rfl⟩
  obtain ⟨X1, hX1⟩ : ∃ X, X = X0.alloc (.cells #[.int .i64 0, .int .i64 0] 25) := ⟨_, rfl⟩
  obtain ⟨X, hX⟩ : ∃ X, X = X1.alloc (.cells #[.int .i64 0, .int .i64 0, .int .i64 0, .string ⟨#[]⟩, .string ⟨#[]⟩, .string ⟨#[]⟩, .string ⟨#[]⟩, .int .i64 0] 27) := ⟨_, rfl⟩
  have s0 : X0.heap.size = w.heap.size + 1 := by rw [hX0]; simp
  have s1 : X1.heap.size = w.heap.size + 2 := by rw [hX1]; simp [s0]
  have b0 : Below w.heap.size w X0 := by rw [hX0]; exact (Below.refl _ w).alloc (Nat.le_refl _) _
  have b1 : Below X0.heap.size X0 X1 := by rw [hX1]; exact (Below.refl _ _).alloc (Nat.le_refl _) _
  have b2 : Below X1.heap.size X1 X := by rw [hX]; exact (Below.refl _ _).alloc (Nat.le_refl _) _
  have BX : Hid (Below w.heap.size w X) := (b0.trans (b1.mono (by omega))).trans (b2.mono (by omega))
  have q0 : Blk X0 w.heap.size (mgc m (.slice ua uk uc)) := by rw [hX0]; exact blk_new w 30 (mgc m (.slice ua uk uc))
  have QM : Hid (Blk X w.heap.size (mgc m (.slice ua uk uc))) := (q0.on b1).on b2
  have q1 : Blk X1 X0.heap.size [.int .i64 0, .int .i64 0] := by rw [hX1]; exact blk_new X0 25 [.int .i64 0, .int .i64 0]
  rw [s0] at q1
  have QB : Hid (Blk X (w.heap.size + 1) [.int .i64 0, .int .i64 0]) := q1.on b2
  have q2 : Blk X X1.heap.size [.int .i64 0, .int .i64 0, .int .i64 0, .string ⟨#[]⟩, .string ⟨#[]⟩, .string ⟨#[]⟩, .string ⟨#[]⟩, .int .i64 0] := by rw [hX]; exact blk_new X1 27 [.int .i64 0, .int .i64 0, .int .i64 0, .string ⟨#[]⟩, .string ⟨#[]⟩, .string ⟨#[]⟩, .string ⟨#[]⟩, .int .i64 0]
  rw [s1] at q2
  have QC : Hid (Blk X (w.heap.size + 2) [.int .i64 0, .int .i64 0, .int .i64 0, .string ⟨#[]⟩, .string ⟨#[]⟩, .string ⟨#[]⟩, .string ⟨#[]⟩, .int .i64 0]) := q2
  have eX : Hid (((w.alloc (.cells (mgc m (.slice ua uk uc)).toArray 30)).alloc (.cells #[.int .i64 0, .int .i64 0] 25)).alloc (.cells #[.int .i64 0, .int .i64 0, .int .i64 0, .string ⟨#[]⟩, .string ⟨#[]⟩, .string ⟨#[]⟩, .string ⟨#[]⟩, .int .i64 0] 27) = X) := by rw [hX, hX1, hX0]; exact rfl
  clear hX hX1 hX0 s0 s1 b0 b1 b2 q0 q1 q2
  have c_X_kind : X.cell? ⟨w.heap.size, 0, none⟩ = some (.int .i64 m.kind) := QM.out.cell 0 _ rfl
  have c_X_st : X.cell? ⟨w.heap.size, 7, none⟩ = some (.int .i64 m.st) := QM.out.cell 7 _ rfl
  go_enter Tryz.func25, Tryz.ntmps25
  go_upto_region 3 with fail
  rw [eX.out]
  clear eX
  go_wp2_with (first | (refine wpList_load_mid rfl 30 _ rfl w.heap.size 0 rfl (mgc m (.slice ua uk uc)) _ QM.out.range Tryz.underlying30 rfl (by kernel_rfl) ?_))
  refine (hc5_any m (.slice ua uk uc) _).mono ?_
  rintro e w1 ⟨rfl, hb⟩
  rw [HC.out]
  have B1 : Hid (Below w.heap.size w w1) := BX.out.trans (hb.mono BX.out.size)
  have M1 : Hid (Blk w1 w.heap.size (mgc m (.slice ua uk uc))) := QM.out.on hb
  have N1 : Hid (Blk w1 (w.heap.size + 1) [.int .i64 0, .int .i64 0]) := QB.out.on hb
  have C1 : Hid (Blk w1 (w.heap.size + 2) [.int .i64 0, .int .i64 0, .int .i64 0, .string ⟨#[]⟩, .string ⟨#[]⟩, .string ⟨#[]⟩, .string ⟨#[]⟩, .int .i64 0]) := QC.out.on hb
  clear hb QM QB QC BX
  have c_w1_kind : w1.cell? ⟨w.heap.size, 0, none⟩ = some (.int .i64 m.kind) := M1.out.cell 0 _ rfl
  clear HC
  go_wp2_with (first | (refine wpList_load_mid rfl 30 _ rfl w.heap.size 0 rfl (mgc m (.slice ua uk uc)) _ M1.out.range Tryz.underlying30 rfl (by kernel_rfl) ?_))
  refine (hs5_any m (.slice ua uk uc) _).mono ?_
  rintro e w2 ⟨rfl, hb⟩
  rw [HS.out]
  have B2 : Hid (Below w.heap.size w w2) := B1.out.trans (hb.mono B1.out.size)
  have M2 : Hid (Blk w2 w.heap.size (mgc m (.slice ua uk uc))) := M1.out.on hb
  have N2 : Hid (Blk w2 (w.heap.size + 1) [.int .i64 0, .int .i64 0]) := N1.out.on hb
  have C2 : Hid (Blk w2 (w.heap.size + 2) [.int .i64 0, .int .i64 0, .int .i64 0, .string ⟨#[]⟩, .string ⟨#[]⟩, .string ⟨#[]⟩, .string ⟨#[]⟩, .int .i64 0]) := C1.out.on hb
  clear hb M1 N1 C1 B1
  have c_w2_kind : w2.cell? ⟨w.heap.size, 0, none⟩ = some (.int .i64 m.kind) := M2.out.cell 0 _ rfl
  clear HS
  go_wp2_with fail
  refine (hb5_any' m.kind _).mono ?_
  rintro e w3 ⟨rfl, hb⟩
  rw [HB.out]
  have B3 : Hid (Below w.heap.size w w3) := B2.out.trans (hb.mono B2.out.size)
  have M3 : Hid (Blk w3 w.heap.size (mgc m (.slice ua uk uc))) := M2.out.on hb
  have N3 : Hid (Blk w3 (w.heap.size + 1) [.int .i64 0, .int .i64 0]) := N2.out.on hb
  have C3 : Hid (Blk w3 (w.heap.size + 2) [.int .i64 0, .int .i64 0, .int .i64 0, .string ⟨#[]⟩, .string ⟨#[]⟩, .string ⟨#[]⟩, .string ⟨#[]⟩, .int .i64 0]) := C2.out.on hb
  clear hb M2 N2 C2 B2
  have c_w3_kind : w3.cell? ⟨w.heap.size, 0, none⟩ = some (.int .i64 m.kind) := M3.out.cell 0 _ rfl
  have c_w3_st : w3.cell? ⟨w.heap.size, 7, none⟩ = some (.int .i64 m.st) := M3.out.cell 7 _ rfl
  obtain ⟨m_w3_0, m_w3_1, m_w3_2, m_w3_3, m_w3_4, m_w3_5, m_w3_6, m_w3_7⟩ := cells8 M3.out 9 rfl rfl rfl rfl rfl rfl rfl rfl
  obtain ⟨z_w3_0, z_w3_1, z_w3_2, z_w3_3, z_w3_4, z_w3_5, z_w3_6, z_w3_7⟩ := cells8 C3.out 0 rfl rfl rfl rfl rfl rfl rfl rfl
  have c_w3_sm : w3.cell? ⟨w.heap.size, 8, none⟩ = some (.bool bm) := by rw [← hbm.out]; exact M3.out.cell 8 _ rfl
  clear HB
  by_cases hst : m.st = 0
  · have dst : (m.st != 0) = false := by simp [hst]
    have vst : Hid (bs = true) := by show _ = _; rw [← hbs.out]; simp [hst]
    rw [vst.out] at HE
    clear hst vst hbs
    clear hbm
    cases bm with
    | true =>
      have HF : Hid (z = true) := by show _ = _; rw [HE.out]; simp
      clear HE
      go_wp2
      go_ret
      exact ⟨by rw [HF.out]; rfl, B3.out⟩
    | false =>
      go_wp2_with fail
      refine (sameCmd_any m.c zeroC _).mono ?_
      rintro e w4 ⟨rfl, hb⟩
      rw [hbc.out]
      have B4 : Hid (Below w.heap.size w w4) := B3.out.trans (hb.mono B3.out.size)
      have M4 : Hid (Blk w4 w.heap.size (mgc m (.slice ua uk uc))) := M3.out.on hb
      have N4 : Hid (Blk w4 (w.heap.size + 1) [.int .i64 0, .int .i64 0]) := N3.out.on hb
      have C4 : Hid (Blk w4 (w.heap.size + 2) [.int .i64 0, .int .i64 0, .int .i64 0, .string ⟨#[]⟩, .string ⟨#[]⟩, .string ⟨#[]⟩, .string ⟨#[]⟩, .int .i64 0]) := C3.out.on hb
      clear hb M3 N3 C3 B3
      have c_w4_kind : w4.cell? ⟨w.heap.size, 0, none⟩ = some (.int .i64 m.kind) := M4.out.cell 0 _ rfl
      have c_w4_st : w4.cell? ⟨w.heap.size, 7, none⟩ = some (.int .i64 m.st) := M4.out.cell 7 _ rfl
      have c_w4_sq : w4.cell? ⟨w.heap.size, 17, none⟩ = some (.int .i64 m.sq) := M4.out.cell 17 _ rfl
      have c_w4_u : w4.cell? ⟨w.heap.size, 18, none⟩ = some (.slice ua uk uc) := M4.out.cell 18 _ rfl
      clear hbc
      cases bc with
      | false =>
        have HF : Hid (z = true) := by show _ = _; rw [HE.out]; simp
        clear HE
        go_wp2
        go_ret
        exact ⟨by rw [HF.out]; rfl, B4.out⟩
      | true =>
        by_cases hsq : m.sq = 0
        · have dsq : (m.sq != 0) = false := by simp [hsq]
          have vsq : Hid (bq = true) := by show _ = _; rw [← hbq.out]; simp [hsq]
          rw [vsq.out] at HE
          clear hsq vsq hbq
          rw [← HU.out] at hbl
          by_cases hle : uk = 0
          · have dle : ((uk : Int) != 0) = false := by simp [hle]
            have vle : Hid (bl = true) := by show _ = _; rw [← hbl.out]; simp [hle]
            rw [vle.out] at HE
            clear hle vle hbl HU
            have HF : Hid (z = false) := by show _ = _; rw [HE.out]; simp
            clear HE
            go_wp2
            go_ret
            exact ⟨by rw [HF.out]; rfl, B4.out⟩
          · have dle : ((uk : Int) != 0) = true := by simp [hle]
            have vle : Hid (bl = false) := by show _ = _; rw [← hbl.out]; simp [hle]
            rw [vle.out] at HE
            clear hle vle hbl HU
            have HF : Hid (z = true) := by show _ = _; rw [HE.out]; simp
            clear HE
            go_wp2
            go_ret
            exact ⟨by rw [HF.out]; rfl, B4.out⟩
        · have dsq : (m.sq != 0) = true := by simp [hsq]
          have vsq : Hid (bq = false) := by show _ = _; rw [← hbq.out]; simp [hsq]
          rw [vsq.out] at HE
          clear hsq vsq hbq
          have HF : Hid (z = true) := by show _ = _; rw [HE.out]; simp
          clear HE
          go_wp2
          go_ret
          exact ⟨by rw [HF.out]; rfl, B4.out⟩
  · have dst : (m.st != 0) = true := by simp [hst]
    have vst : Hid (bs = false) := by show _ = _; rw [← hbs.out]; simp [hst]
    rw [vst.out] at HE
    clear hst vst hbs
    have HF : Hid (z = true) := by show _ = _; rw [HE.out]; simp
    clear HE
    go_wp2
    go_ret
    exact ⟨by rw [HF.out]; rfl, B3.out⟩
set_option maxHeartbeats 4000000 in
set_option maxRecDepth 100000 in
theorem ex5_0 (m : Ms) (ua : Option Addr) (uk uc : Nat) (w : World) (hu : uk = m.dl.length) (h : m.kind = 9) : Calls Tryz.prog 25 #[.agg (mgc m (.slice ua uk uc)).toArray] w fun e w' => e = .returned (.bool (extraM m)) ∧ Below w.heap.size w w' := by
  have hc0 : hc5 m = false := by unfold hc5; simp [h]
  have hs0 : hs5 m = false := by unfold hs5; rw [hc0]; simp [h]
  have hb0 : hb5 m.kind = false := by unfold hb5; simp [h]
  have k7 : (m.kind == 7) = false := by simp [h]
  have k7' : (m.kind != 7) = true := by simp [h]
  have k8 : (m.kind != 8) = true := by simp [h]
  have HX : Hid (extraM m = (!(sib5 m.x m.y 0 0 && (sib5 m.p m.q 0 0 && ((m.st == 0) && (!m.sm && (sameC m.c zeroC && ((m.sq == 0) && ((m.dl.length == 0)))))))))) := (exm_0 m h).2
  have HC := hide hc0
  have HS := hide hs0
  have HB := hide hb0
  have HU := hide hu
  clear h hc0 hs0 hb0 hu
  obtain ⟨bx, hbx⟩ : ∃ b : Bool, Hid ((sib5 m.x m.y 0 0) = b) := ⟨_, rfl⟩
  obtain ⟨bp, hbp⟩ : ∃ b : Bool, Hid ((sib5 m.p m.q 0 0) = b) := ⟨_, rfl⟩
  obtain ⟨bs, hbs⟩ : ∃ b : Bool, Hid (((m.st == 0)) = b) := ⟨_, rfl⟩
  obtain ⟨bm, hbm⟩ : ∃ b : Bool, Hid ((m.sm) = b) := ⟨_, rfl⟩
  obtain ⟨bc, hbc⟩ : ∃ b : Bool, Hid ((sameC m.c zeroC) = b) := ⟨_, rfl⟩
  obtain ⟨bq, hbq⟩ : ∃ b : Bool, Hid (((m.sq == 0)) = b) := ⟨_, rfl⟩
  obtain ⟨bl, hbl⟩ : ∃ b : Bool, Hid (((m.dl.length == 0)) = b) := ⟨_, rfl⟩
  have HE : Hid (extraM m = (!(bx && (bp && (bs && (!bm && (bc && (bq && (bl))))))))) := by show _ = _; rw [HX.out, hbx.out, hbp.out, hbs.out, hbm.out, hbc.out, hbq.out, hbl.out]
  clear HX
  obtain ⟨z, hz⟩ : ∃ z, Hid (extraM m = z) := ⟨_, rfl⟩
  rw [hz.out] at HE ⊢
  clear hz
  obtain ⟨X0, hX0⟩ : ∃ X, X = w.alloc (.cells (mgc m (.slice ua uk uc)).toArray 30) := ⟨_, rfl⟩
  obtain ⟨X1, hX1⟩ : ∃ X, X = X0.alloc (.cells #[.int .i64 0, .int .i64 0] 25) := ⟨_, rfl⟩
  obtain ⟨X, hX⟩ : ∃ X, X = X1.alloc (.cells #[.int .i64 0, .int .i64 0, .int .i64 0, .string ⟨#[]⟩, .string ⟨#[]⟩, .string ⟨#[]⟩, .string ⟨#[]⟩, .int .i64 0] 27) := ⟨_, rfl⟩
  have s0 : X0.heap.size = w.heap.size + 1 := by rw [hX0]; simp
  have s1 : X1.heap.size = w.heap.size + 2 := by rw [hX1]; simp [s0]
  have b0 : Below w.heap.size w X0 := by rw [hX0]; exact (Below.refl _ w).alloc (Nat.le_refl _) _
  have b1 : Below X0.heap.size X0 X1 := by rw [hX1]; exact (Below.refl _ _).alloc (Nat.le_refl _) _
  have b2 : Below X1.heap.size X1 X := by rw [hX]; exact (Below.refl _ _).alloc (Nat.le_refl _) _
  have BX : Hid (Below w.heap.size w X) := (b0.trans (b1.mono (by omega))).trans (b2.mono (by omega))
  have q0 : Blk X0 w.heap.size (mgc m (.slice ua uk uc)) := by rw [hX0]; exact blk_new w 30 (mgc m (.slice ua uk uc))
  have QM : Hid (Blk X w.heap.size (mgc m (.slice ua uk uc))) := (q0.on b1).on b2
  have q1 : Blk X1 X0.heap.size [.int .i64 0, .int .i64 0] := by rw [hX1]; exact blk_new X0 25 [.int .i64 0, .int .i64 0]
  rw [s0] at q1
  have QB : Hid (Blk X (w.heap.size + 1) [.int .i64 0, .int .i64 0]) := q1.on b2
  have q2 : Blk X X1.heap.size [.int .i64 0, .int .i64 0, .int .i64 0, .string ⟨#[]⟩, .string ⟨#[]⟩, .string ⟨#[]⟩, .string ⟨#[]⟩, .int .i64 0] := by rw [hX]; exact blk_new X1 27 [.int .i64 0, .int .i64 0, .int .i64 0, .string ⟨#[]⟩, .string ⟨#[]⟩, .string ⟨#[]⟩, .string ⟨#[]⟩, .int .i64 0]
  rw [s1] at q2
  have QC : Hid (Blk X (w.heap.size + 2) [.int .i64 0, .int .i64 0, .int .i64 0, .string ⟨#[]⟩, .string ⟨#[]⟩, .string ⟨#[]⟩, .string ⟨#[]⟩, .int .i64 0]) := q2
  have eX : Hid (((w.alloc (.cells (mgc m (.slice ua uk uc)).toArray 30)).alloc (.cells #[.int .i64 0, .int .i64 0] 25)).alloc (.cells #[.int .i64 0, .int .i64 0, .int .i64 0, .string ⟨#[]⟩, .string ⟨#[]⟩, .string ⟨#[]⟩, .string ⟨#[]⟩, .int .i64 0] 27) = X) := by rw [hX, hX1, hX0]; exact rfl
  clear hX hX1 hX0 s0 s1 b0 b1 b2 q0 q1 q2
  have c_X_kind : X.cell? ⟨w.heap.size, 0, none⟩ = some (.int .i64 m.kind) := QM.out.cell 0 _ rfl
  have c_X_st : X.cell? ⟨w.heap.size, 7, none⟩ = some (.int .i64 m.st) := QM.out.cell 7 _ rfl
  go_enter Tryz.func25, Tryz.ntmps25
  go_upto_region 3 with fail
  rw [eX.out]
  clear eX
  go_wp2_with (first | (refine wpList_load_mid rfl 30 _ rfl w.heap.size 0 rfl (mgc m (.slice ua uk uc)) _ QM.out.range Tryz.underlying30 rfl (by kernel_rfl) ?_))
  refine (hc5_any m (.slice ua uk uc) _).mono ?_
  rintro e w1 ⟨rfl, hb⟩
  rw [HC.out]
  have B1 : Hid (Below w.heap.size w w1) := BX.out.trans (hb.mono BX.out.size)
  have M1 : Hid (Blk w1 w.heap.size (mgc m (.slice ua uk uc))) := QM.out.on hb
  have N1 : Hid (Blk w1 (w.heap.size + 1) [.int .i64 0, .int .i64 0]) := QB.out.on hb
  have C1 : Hid (Blk w1 (w.heap.size + 2) [.int .i64 0, .int .i64 0, .int .i64 0, .string ⟨#[]⟩, .string ⟨#[]⟩, .string ⟨#[]⟩, .string ⟨#[]⟩, .int .i64 0]) := QC.out.on hb
  clear hb QM QB QC BX
  have c_w1_kind : w1.cell? ⟨w.heap.size, 0, none⟩ = some (.int .i64 m.kind) := M1.out.cell 0 _ rfl
  clear HC
  go_wp2_with (first | (refine wpList_load_mid rfl 30 _ rfl w.heap.size 0 rfl (mgc m (.slice ua uk uc)) _ M1.out.range Tryz.underlying30 rfl (by kernel_rfl) ?_))
  refine (hs5_any m (.slice ua uk uc) _).mono ?_
  rintro e w2 ⟨rfl, hb⟩
  rw [HS.out]
  have B2 : Hid (Below w.heap.size w w2) := B1.out.trans (hb.mono B1.out.size)
  have M2 : Hid (Blk w2 w.heap.size (mgc m (.slice ua uk uc))) := M1.out.on hb
  have N2 : Hid (Blk w2 (w.heap.size + 1) [.int .i64 0, .int .i64 0]) := N1.out.on hb
  have C2 : Hid (Blk w2 (w.heap.size + 2) [.int .i64 0, .int .i64 0, .int .i64 0, .string ⟨#[]⟩, .string ⟨#[]⟩, .string ⟨#[]⟩, .string ⟨#[]⟩, .int .i64 0]) := C1.out.on hb
  clear hb M1 N1 C1 B1
  have c_w2_kind : w2.cell? ⟨w.heap.size, 0, none⟩ = some (.int .i64 m.kind) := M2.out.cell 0 _ rfl
  clear HS
  go_wp2_with fail
  refine (hb5_any' m.kind _).mono ?_
  rintro e w3 ⟨rfl, hb⟩
  rw [HB.out]
  have B3 : Hid (Below w.heap.size w w3) := B2.out.trans (hb.mono B2.out.size)
  have M3 : Hid (Blk w3 w.heap.size (mgc m (.slice ua uk uc))) := M2.out.on hb
  have N3 : Hid (Blk w3 (w.heap.size + 1) [.int .i64 0, .int .i64 0]) := N2.out.on hb
  have C3 : Hid (Blk w3 (w.heap.size + 2) [.int .i64 0, .int .i64 0, .int .i64 0, .string ⟨#[]⟩, .string ⟨#[]⟩, .string ⟨#[]⟩, .string ⟨#[]⟩, .int .i64 0]) := C2.out.on hb
  clear hb M2 N2 C2 B2
  have c_w3_kind : w3.cell? ⟨w.heap.size, 0, none⟩ = some (.int .i64 m.kind) := M3.out.cell 0 _ rfl
  have c_w3_st : w3.cell? ⟨w.heap.size, 7, none⟩ = some (.int .i64 m.st) := M3.out.cell 7 _ rfl
  have c_w3_x : w3.cell? ⟨w.heap.size, 3, none⟩ = some (.int .i64 m.x) := M3.out.cell 3 _ rfl
  have c_w3_y : w3.cell? ⟨w.heap.size, 4, none⟩ = some (.int .i64 m.y) := M3.out.cell 4 _ rfl
  have n_w3_0 : w3.cell? ⟨w.heap.size + 1, 0, none⟩ = some (.int .i64 0) := N3.out.cell 0 _ rfl
  have n_w3_1 : w3.cell? ⟨w.heap.size + 1, 1, none⟩ = some (.int .i64 0) := N3.out.cell 1 _ rfl
  clear HB
  go_wp2_with fail
  refine (sameBal5_any m.x m.y 0 0 _).mono ?_
  rintro e w4 ⟨rfl, hb⟩
  rw [hbx.out]
  have B4 : Hid (Below w.heap.size w w4) := B3.out.trans (hb.mono B3.out.size)
  have M4 : Hid (Blk w4 w.heap.size (mgc m (.slice ua uk uc))) := M3.out.on hb
  have N4 : Hid (Blk w4 (w.heap.size + 1) [.int .i64 0, .int .i64 0]) := N3.out.on hb
  have C4 : Hid (Blk w4 (w.heap.size + 2) [.int .i64 0, .int .i64 0, .int .i64 0, .string ⟨#[]⟩, .string ⟨#[]⟩, .string ⟨#[]⟩, .string ⟨#[]⟩, .int .i64 0]) := C3.out.on hb
  clear hb M3 N3 C3 B3
  have c_w4_kind : w4.cell? ⟨w.heap.size, 0, none⟩ = some (.int .i64 m.kind) := M4.out.cell 0 _ rfl
  have c_w4_st : w4.cell? ⟨w.heap.size, 7, none⟩ = some (.int .i64 m.st) := M4.out.cell 7 _ rfl
  have c_w4_p : w4.cell? ⟨w.heap.size, 5, none⟩ = some (.int .i64 m.p) := M4.out.cell 5 _ rfl
  have c_w4_q : w4.cell? ⟨w.heap.size, 6, none⟩ = some (.int .i64 m.q) := M4.out.cell 6 _ rfl
  have n_w4_0 : w4.cell? ⟨w.heap.size + 1, 0, none⟩ = some (.int .i64 0) := N4.out.cell 0 _ rfl
  have n_w4_1 : w4.cell? ⟨w.heap.size + 1, 1, none⟩ = some (.int .i64 0) := N4.out.cell 1 _ rfl
  clear hbx
  cases bx with
  | false =>
    have HF : Hid (z = true) := by show _ = _; rw [HE.out]; simp
    clear HE
    go_wp2
    go_ret
    exact ⟨by rw [HF.out]; rfl, B4.out⟩
  | true =>
    go_wp2_with fail
    refine (sameBal5_any m.p m.q 0 0 _).mono ?_
    rintro e w5 ⟨rfl, hb⟩
    rw [hbp.out]
    have B5 : Hid (Below w.heap.size w w5) := B4.out.trans (hb.mono B4.out.size)
    have M5 : Hid (Blk w5 w.heap.size (mgc m (.slice ua uk uc))) := M4.out.on hb
    have N5 : Hid (Blk w5 (w.heap.size + 1) [.int .i64 0, .int .i64 0]) := N4.out.on hb
    have C5 : Hid (Blk w5 (w.heap.size + 2) [.int .i64 0, .int .i64 0, .int .i64 0, .string ⟨#[]⟩, .string ⟨#[]⟩, .string ⟨#[]⟩, .string ⟨#[]⟩, .int .i64 0]) := C4.out.on hb
    clear hb M4 N4 C4 B4
    have c_w5_kind : w5.cell? ⟨w.heap.size, 0, none⟩ = some (.int .i64 m.kind) := M5.out.cell 0 _ rfl
    have c_w5_st : w5.cell? ⟨w.heap.size, 7, none⟩ = some (.int .i64 m.st) := M5.out.cell 7 _ rfl
    obtain ⟨m_w5_0, m_w5_1, m_w5_2, m_w5_3, m_w5_4, m_w5_5, m_w5_6, m_w5_7⟩ := cells8 M5.out 9 rfl rfl rfl rfl rfl rfl rfl rfl
    obtain ⟨z_w5_0, z_w5_1, z_w5_2, z_w5_3, z_w5_4, z_w5_5, z_w5_6, z_w5_7⟩ := cells8 C5.out 0 rfl rfl rfl rfl rfl rfl rfl rfl
    have c_w5_sm : w5.cell? ⟨w.heap.size, 8, none⟩ = some (.bool bm) := by rw [← hbm.out]; exact M5.out.cell 8 _ rfl
    clear hbp
    cases bp with
    | false =>
      have HF : Hid (z = true) := by show _ = _; rw [HE.out]; simp
      clear HE
      go_wp2
      go_ret
      exact ⟨by rw [HF.out]; rfl, B5.out⟩
    | true =>
      by_cases hst : m.st = 0
      · have dst : (m.st != 0) = false := by simp [hst]
        have vst : Hid (bs = true) := by show _ = _; rw [← hbs.out]; simp [hst]
        rw [vst.out] at HE
        clear hst vst hbs
        clear hbm
        cases bm with
        | true =>
          have HF : Hid (z = true) := by show _ = _; rw [HE.out]; simp
          clear HE
          go_wp2
          go_ret
          exact ⟨by rw [HF.out]; rfl, B5.out⟩
        | false =>
          go_wp2_with fail
          refine (sameCmd_any m.c zeroC _).mono ?_
          rintro e w6 ⟨rfl, hb⟩
          rw [hbc.out]
          have B6 : Hid (Below w.heap.size w w6) := B5.out.trans (hb.mono B5.out.size)
          have M6 : Hid (Blk w6 w.heap.size (mgc m (.slice ua uk uc))) := M5.out.on hb
          have N6 : Hid (Blk w6 (w.heap.size + 1) [.int .i64 0, .int .i64 0]) := N5.out.on hb
          have C6 : Hid (Blk w6 (w.heap.size + 2) [.int .i64 0, .int .i64 0, .int .i64 0, .string ⟨#[]⟩, .string ⟨#[]⟩, .string ⟨#[]⟩, .string ⟨#[]⟩, .int .i64 0]) := C5.out.on hb
          clear hb M5 N5 C5 B5
          have c_w6_kind : w6.cell? ⟨w.heap.size, 0, none⟩ = some (.int .i64 m.kind) := M6.out.cell 0 _ rfl
          have c_w6_st : w6.cell? ⟨w.heap.size, 7, none⟩ = some (.int .i64 m.st) := M6.out.cell 7 _ rfl
          have c_w6_sq : w6.cell? ⟨w.heap.size, 17, none⟩ = some (.int .i64 m.sq) := M6.out.cell 17 _ rfl
          have c_w6_u : w6.cell? ⟨w.heap.size, 18, none⟩ = some (.slice ua uk uc) := M6.out.cell 18 _ rfl
          clear hbc
          cases bc with
          | false =>
            have HF : Hid (z = true) := by show _ = _; rw [HE.out]; simp
            clear HE
            go_wp2
            go_ret
            exact ⟨by rw [HF.out]; rfl, B6.out⟩
          | true =>
            by_cases hsq : m.sq = 0
            · have dsq : (m.sq != 0) = false := by simp [hsq]
              have vsq : Hid (bq = true) := by show _ = _; rw [← hbq.out]; simp [hsq]
              rw [vsq.out] at HE
              clear hsq vsq hbq
              rw [← HU.out] at hbl
              by_cases hle : uk = 0
              · have dle : ((uk : Int) != 0) = false := by simp [hle]
                have vle : Hid (bl = true) := by show _ = _; rw [← hbl.out]; simp [hle]
                rw [vle.out] at HE
                clear hle vle hbl HU
                have HF : Hid (z = false) := by show _ = _; rw [HE.out]; simp
                clear HE
                go_wp2
                go_ret
                exact ⟨by rw [HF.out]; rfl, B6.out⟩
              · have dle : ((uk : Int) != 0) = true := by simp [hle]
                have vle : Hid (bl = false) := by show _ = _; rw [← hbl.out]; simp [hle]
                rw [vle.out] at HE
                clear hle vle hbl HU
                have HF : Hid (z = true) := by show _ = _; rw [HE.out]; simp
                clear HE
                go_wp2
                go_ret
                exact ⟨by rw [HF.out]; rfl, B6.out⟩
            · have dsq : (m.sq != 0) = true := by simp [hsq]
              have vsq : Hid (bq = false) := by show _ = _; rw [← hbq.out]; simp [hsq]
              rw [vsq.out] at HE
              clear hsq vsq hbq
              have HF : Hid (z = true) := by show _ = _; rw [HE.out]; simp
              clear HE
              go_wp2
              go_ret
              exact ⟨by rw [HF.out]; rfl, B6.out⟩
      · have dst : (m.st != 0) = true := by simp [hst]
        have vst : Hid (bs = false) := by show _ = _; rw [← hbs.out]; simp [hst]
        rw [vst.out] at HE
        clear hst vst hbs
        have HF : Hid (z = true) := by show _ = _; rw [HE.out]; simp
        clear HE
        go_wp2
        go_ret
        exact ⟨by rw [HF.out]; rfl, B5.out⟩
theorem ex5_any (v : Int) (m : Ms) (ua : Option Addr) (uk uc : Nat) (w : World) (hu : uk = m.dl.length) (hk : ik5 v m.kind = true) : Calls Tryz.prog 25 #[.agg (mgc m (.slice ua uk uc)).toArray] w fun e w' => e = .returned (.bool (extraM m)) ∧ Below w.heap.size w w' := by
  have hk' : 1 ≤ m.kind ∧ m.kind ≤ 9 := by
    simp only [ik5, Bool.or_eq_true, Bool.and_eq_true, beq_iff_eq, decide_eq_true_eq] at hk
    omega
  rcases (by omega : (m.kind = 1 ∨ m.kind = 3) ∨ m.kind = 2 ∨ (m.kind = 4 ∨ m.kind = 6) ∨ m.kind = 5 ∨ m.kind = 7 ∨ m.kind = 8 ∨ m.kind = 9) with h | h | h | h | h | h | h
  · exact ex5_1 m ua uk uc w h
  · exact ex5_2 m ua uk uc w h
  · exact ex5_3 m ua uk uc w hu h
  · exact ex5_4 m ua uk uc w h
  · by_cases h0 : m.st = 0
    · exact ex5_5 m ua uk uc w hu ⟨h, h0⟩
    · exact ex5_6 m ua uk uc w ⟨h, h0⟩
  · exact ex5_7 m ua uk uc w hu h
  · exact ex5_0 m ua uk uc w hu h
end Go.Proofs.YtdokagebfeejbaaGreatDoor
