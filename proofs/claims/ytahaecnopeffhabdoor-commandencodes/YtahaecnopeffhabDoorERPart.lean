/- The contracts of the document's own part and Encode. -/
import Derived.Test.YtahaecnopeffhabDoorERJoin
import Derived.Test.YtahaecnopeffhabDoorERMath
import Derived.Test.YtahaecnopeffhabDoorRPut
import Derived.Test.YtahaecnopeffhabDoorHBox
namespace Go.Proofs.YtahaecnopeffhabDoor
open Go.RowKit Go.Wire1

theorem str_from' (s : ByteArray) (i : Nat) (hi : i ≤ s.size) (V : World) : (Instr.slice 9 (.string s) (some (.int .i64 (i : Int))) none none).run Tryd.prog V = .ok (.string (s.extract i s.size)) V := by
  have := run_slice_string_l V 9 s Tryd.underlying9 .i64 (i : Int) (by omega) (by omega)
  simpa using this
theorem own_mine {w : World} {B : Nat} {v : Value} {l : List Int} (h : w.ownsRow B 5 1 v l.length (l.map (Value.int .u8))) (hl : 0 < l.length) : ∃ g cap, v = .slice (some ⟨g, 0, none⟩) l.length cap ∧ Seg w (some ⟨g, 0, none⟩) l.length l ∧ B ≤ g ∧ g < w.heap.size := by
  obtain ⟨g, cap, rfl, hm⟩ := mine_of h hl
  exact ⟨g, cap, rfl, hm.seg, hm.2.2.2.2, (World.ownsRow.lt h g rfl).2⟩

set_option maxHeartbeats 600000 in
set_option maxRecDepth 100000 in
theorem rpart_any (b : Int) (c : Cm) (w : World) (h : PartOk b c) (hn1 : -9223372036854775808 ≤ c.n) (hn2 : c.n ≤ 9223372036854775807) (hk : c.key.size ≤ 140737488351232) (hk2 : c.key2.size ≤ 140737488351232) :
    Calls Tryd.prog 37 #[.int .u8 b, .agg #[.int .i64 c.kind, .int .i64 c.client, .int .i64 c.req, .string c.key, .string c.key2, .string c.val, .string c.old, .int .i64 c.n]] w fun e w' => ∃ v, e = .returned v ∧ w'.ownsRow w.heap.size 5 1 v (partB b c).length ((partB b c).map (Value.int .u8)) ∧ Below w.heap.size w w' := by
  obtain ⟨V, hV⟩ : ∃ V, V = w.alloc (.cells #[.int .i64 c.kind, .int .i64 c.client, .int .i64 c.req, .string c.key, .string c.key2, .string c.val, .string c.old, .int .i64 c.n] 24) := ⟨_, rfl⟩
  have X : Hid (CBox V w.heap.size c.kind c.client c.req c.key c.key2 c.val c.old c.n) := by rw [hV]; exact cbox_new w 24 _ _ _ _ _ _ _ _
  have BV : Hid (Below w.heap.size w V) := by rw [hV]; exact (Below.refl _ _).alloc (Nat.le_refl _) _
  have hVs : w.heap.size ≤ V.heap.size := BV.out.size
  obtain ⟨x0, x1, x2, x3, x4, x5, x6, x7⟩ := X.out
  obtain ⟨LL, hLL⟩ : ∃ LL, Hid (partB b c = LL) := ⟨_, rfl⟩
  rw [hLL.out]
  by_cases h99 : b = 99
  · subst h99
    obtain ⟨c0, c1⟩ := h.client rfl
    obtain ⟨cl, hcl⟩ := Int.eq_ofNat_of_zero_le c0
    rw [hcl] at x1 hV c1 ⊢
    have HE : Hid (LL = enc cl) := by rw [← hLL.out]; simp [Hid, partB, hcl]
    clear hcl c0
    go_enter Tryd.func37, Tryd.ntmps37
    go_wp2_with fail
    rw [← hV]
    clear hV
    refine (rputUint_any cl _ (by omega)).mono ?_
    rintro e w1 ⟨v1, rfl, o1, hb1⟩
    have O1 : Hid (w1.ownsRow w.heap.size 5 1 v1 LL.length (LL.map (Value.int .u8))) := by rw [HE.out]; exact own_more o1 hVs
    have B1 : Hid (Below w.heap.size w w1) := BV.out.trans (hb1.mono hVs)
    clear hb1 o1
    go_wp2
    go_ret
    exact ⟨_, rfl, O1.out, B1.out⟩
  by_cases h114 : b = 114
  · subst h114
    obtain ⟨c0, c1⟩ := h.req rfl
    obtain ⟨cl, hcl⟩ := Int.eq_ofNat_of_zero_le c0
    rw [hcl] at x2 hV c1 ⊢
    have HE : Hid (LL = enc cl) := by rw [← hLL.out]; simp [Hid, partB, hcl]
    clear hcl c0
    go_enter Tryd.func37, Tryd.ntmps37
    go_wp2_with fail
    rw [← hV]
    clear hV
    refine (rputUint_any cl _ (by omega)).mono ?_
    rintro e w1 ⟨v1, rfl, o1, hb1⟩
    have O1 : Hid (w1.ownsRow w.heap.size 5 1 v1 LL.length (LL.map (Value.int .u8))) := by rw [HE.out]; exact own_more o1 hVs
    have B1 : Hid (Below w.heap.size w w1) := BV.out.trans (hb1.mono hVs)
    clear hb1 o1
    go_wp2
    go_ret
    exact ⟨_, rfl, O1.out, B1.out⟩
  by_cases h107 : b = 107
  · subst h107
    have HE : Hid (LL = ptx c.key) := by rw [← hLL.out]; simp [Hid, partB]
    go_enter Tryd.func37, Tryd.ntmps37
    go_wp2_with fail
    rw [← hV]
    clear hV
    refine (rputText_any c.key _ hk).mono ?_
    rintro e w1 ⟨v1, rfl, o1, hb1⟩
    have O1 : Hid (w1.ownsRow w.heap.size 5 1 v1 LL.length (LL.map (Value.int .u8))) := by rw [HE.out]; exact own_more o1 hVs
    have B1 : Hid (Below w.heap.size w w1) := BV.out.trans (hb1.mono hVs)
    clear hb1 o1
    go_wp2
    go_ret
    exact ⟨_, rfl, O1.out, B1.out⟩
  by_cases h106 : b = 106
  · subst h106
    obtain ⟨k0, k1, j0, j1⟩ := h.key2 rfl
    have sle := shared_le c.key c.key2
    obtain ⟨sh, hsh⟩ : ∃ sh, Hid (shared c.key c.key2 = sh) := ⟨_, rfl⟩
    rw [hsh.out] at sle
    have ls := enc_le sh (by omega)
    have hst := str_from' c.key2 sh (by omega)
    obtain ⟨rs, hrs⟩ : ∃ rs, Hid (c.key2.extract sh c.key2.size = rs) := ⟨_, rfl⟩
    have lrs : rs.size = c.key2.size - sh := by rw [← hrs.out, ByteArray.size_extract]; omega
    rw [hrs.out] at hst
    have lq := enc_le rs.size (by omega)
    have lpr : (ptx rs).length = (enc rs.size).length + rs.size := by unfold ptx; rw [List.length_append, tx_len]
    have HE : Hid (LL = enc sh ++ ptx rs) := by rw [← hLL.out]; simp [Hid, partB, hsh.out, hrs.out]
    go_enter Tryd.func37, Tryd.ntmps37
    go_wp2_with fail
    rw [← hV]
    clear hV
    refine (rshared_any c.key c.key2 _ hk hk2).mono ?_
    rintro e w1 ⟨rfl, q1, hq1⟩
    rw [hsh.out]
    have B1 : Hid (Below V.heap.size V w1) := by rw [hq1]; exact ⟨rfl, rfl, rfl, Nat.le_refl _, fun _ _ => rfl⟩
    have s1 : V.heap.size ≤ w1.heap.size := B1.out.size
    clear hq1 x0 x1 x2 x3 x4 x5 x6 x7
    go_wp2_with fail
    refine (rputUint_any sh _ (by omega)).mono ?_
    rintro e w2 ⟨v2, rfl, o2, hb2⟩
    have O2 := hide o2
    have B2 : Hid (Below V.heap.size V w2) := B1.out.trans (hb2.mono s1)
    have s2 : V.heap.size ≤ w2.heap.size := B2.out.size
    clear hb2 o2 B1
    obtain ⟨x0, x1, x2, x3, x4, x5, x6, x7⟩ := X.out.below B2.out (Nat.le_refl _)
    go_wp2_with fail
    refine (rputText_any rs _ (by omega)).mono ?_
    rintro e w3 ⟨v3, rfl, o3, hb3⟩
    obtain ⟨g3, c3, hv3, S3, hg3, hl3⟩ := own_mine (l := ptx rs) o3 (by omega)
    subst hv3
    have O3 := hide (own_more (B' := V.heap.size) (own_below O2.out hb3 (Nat.le_refl _)) (by omega))
    have HS3 := hide S3
    have sep : Hid (v2.ownBlock ≠ some g3) := by
      intro e
      have := (World.ownsRow.lt O2.out g3 e).2
      omega
    have B3 : Hid (Below V.heap.size V w3) := B2.out.trans (hb3.mono s2)
    have s3 : V.heap.size ≤ w3.heap.size := B3.out.size
    have tot : Hid ((enc sh).length + (ptx rs).length ≤ 1000000) := by show (enc sh).length + (ptx rs).length ≤ 1000000; omega
    clear hb3 o3 S3 B2 O2 x0 x1 x2 x3 x4 x5 x6 x7 lpr lq lrs ls
    generalize (ptx rs).length = m3 at *
    go_wp2_with fail
    refine (rjoin_any V.heap.size g3 c3 m3 v2 (enc sh) (ptx rs) _ O3.out HS3.out hl3 sep.out tot.out s3).mono ?_
    rintro e w4 ⟨v4, rfl, o4, hb4⟩
    have O4 : Hid (w4.ownsRow w.heap.size 5 1 v4 LL.length (LL.map (Value.int .u8))) := by rw [HE.out]; exact own_more o4 hVs
    have B4 : Hid (Below w.heap.size w w4) := BV.out.trans ((B3.out.trans hb4).mono hVs)
    clear hb4 o4
    go_wp2
    go_ret
    exact ⟨_, rfl, O4.out, B4.out⟩
  by_cases h111 : b = 111
  · subst h111
    have h1 := h.old rfl
    have HE : Hid (LL = ptx c.old) := by rw [← hLL.out]; simp [Hid, partB]
    go_enter Tryd.func37, Tryd.ntmps37
    go_wp2_with fail
    rw [← hV]
    clear hV
    refine (rputText_any c.old _ (by omega)).mono ?_
    rintro e w1 ⟨v1, rfl, o1, hb1⟩
    have O1 : Hid (w1.ownsRow w.heap.size 5 1 v1 LL.length (LL.map (Value.int .u8))) := by rw [HE.out]; exact own_more o1 hVs
    have B1 : Hid (Below w.heap.size w w1) := BV.out.trans (hb1.mono hVs)
    clear hb1 o1
    go_wp2
    go_ret
    exact ⟨_, rfl, O1.out, B1.out⟩
  by_cases h118 : b = 118
  · subst h118
    have h1 := h.val rfl
    have HE : Hid (LL = ptx c.val) := by rw [← hLL.out]; simp [Hid, partB]
    go_enter Tryd.func37, Tryd.ntmps37
    go_wp2_with fail
    rw [← hV]
    clear hV
    refine (rputText_any c.val _ (by omega)).mono ?_
    rintro e w1 ⟨v1, rfl, o1, hb1⟩
    have O1 : Hid (w1.ownsRow w.heap.size 5 1 v1 LL.length (LL.map (Value.int .u8))) := by rw [HE.out]; exact own_more o1 hVs
    have B1 : Hid (Below w.heap.size w w1) := BV.out.trans (hb1.mono hVs)
    clear hb1 o1
    go_wp2
    go_ret
    exact ⟨_, rfl, O1.out, B1.out⟩
  have g1 : (b == 99) = false := by simpa using h99
  have g2 : (b == 114) = false := by simpa using h114
  have g3 : (b == 107) = false := by simpa using h107
  have g4 : (b == 106) = false := by simpa using h106
  have g5 : (b == 111) = false := by simpa using h111
  have g6 : (b == 118) = false := by simpa using h118
  have HE : Hid (LL = enc (zig c.n)) := by rw [← hLL.out]; simp [Hid, partB, h99, h114, h107, h106, h111, h118]
  clear h99 h114 h107 h106 h111 h118
  go_enter Tryd.func37, Tryd.ntmps37
  go_wp2_with fail
  rw [← hV]
  clear hV
  refine (rputInt_any c.n _ hn1 hn2).mono ?_
  rintro e w1 ⟨v1, rfl, o1, hb1⟩
  have O1 : Hid (w1.ownsRow w.heap.size 5 1 v1 LL.length (LL.map (Value.int .u8))) := by rw [HE.out]; exact own_more o1 hVs
  have B1 : Hid (Below w.heap.size w w1) := BV.out.trans (hb1.mono hVs)
  clear hb1 o1
  go_wp2
  go_ret
  exact ⟨_, rfl, O1.out, B1.out⟩
end Go.Proofs.YtahaecnopeffhabDoor
