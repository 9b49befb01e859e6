/- Texts of the proof, joined. -/
import Derived.Test.YtnogdjpbnhnmaaaGreatDoorJ37
import Derived.Test.YtnogdjpbnhnmaaaGreatDoorJ38
import Derived.Test.YtnogdjpbnhnmaaaGreatDoorJ08
import Derived.Test.YtnogdjpbnhnmaaaGreatDoorJ33
/- The contracts of the document's own part and Encode. -/
namespace Go.Proofs.YtnogdjpbnhnmaaaGreatDoor
open Go.RowKit Go.Wire1

theorem str_from' (s : ByteArray) (i : Nat) (hi : i ≤ s.size) (V : World) : (Instr.slice 9 (.string s) (some (.int .i64 (i : Int))) none none).run Tryz.prog V = .ok (.string (s.extract i s.size)) V := by
  have := run_slice_string_l V 9 s Tryz.underlying9 .i64 (i : Int) (by omega) (by omega)
  simpa using this
theorem own_mine {w : World} {B : Nat} {v : Value} {l : List Int} (h : w.ownsRow B 5 1 v l.length (l.map (Value.int .u8))) (hl : 0 < l.length) : ∃ g cap, v = .slice (some ⟨g, 0, none⟩) l.length cap ∧ Seg w (some ⟨g, 0, none⟩) l.length l ∧ B ≤ g ∧ g < w.heap.size := by
  obtain ⟨g, cap, rfl, hm⟩ := mine_of h hl
  exact ⟨g, cap, rfl, hm.seg, hm.2.2.2.2, (World.ownsRow.lt h g rfl).2⟩

set_option maxHeartbeats 600000 in
set_option maxRecDepth 100000 in
theorem rpart_any (b : Int) (c : Cm) (w : World) (h : PartOk b c) (hn1 : -9223372036854775808 ≤ c.n) (hn2 : c.n ≤ 9223372036854775807) (hk : c.key.size ≤ 140737488351232) (hk2 : c.key2.size ≤ 140737488351232) :
    Calls Tryz.prog 66 #[.int .u8 b, .agg #[.int .i64 c.kind, .int .i64 c.client, .int .i64 c.req, .string c.key, .string c.key2, .string c.val, .string c.old, .int .i64 c.n]] w fun e w' => ∃ v, e = .returned v ∧ w'.ownsRow w.heap.size 5 1 v (partB b c).length ((partB b c).map (Value.int .u8)) ∧ Below w.heap.size w w' := by
  obtain ⟨V, hV⟩ : ∃ V, V = w.alloc (.cells #[.int .i64 c.kind, .int .i64 c.client, .int .i64 c.req, .string c.key, .string c.key2, .string c.val, .string c.old, .int .i64 c.n] 28) := ⟨_, rfl⟩
  have X : Hid (CBox V w.heap.size c.kind c.client c.req c.key c.key2 c.val c.old c.n) := by rw [hV]; exact cbox_new w 28 _ _ _ _ _ _ _ _
  have BV : Hid (Below w.heap.size w V) := by rw [hV]; exact (Below.refl _ _).alloc (Nat.le_refl _) _
  have hVs : w.heap.size ≤ V.heap.size := BV.out.size
  obtain ⟨x0, x1, x2, x3, x4, x5, x6, x7⟩ := X.out
  obtain ⟨LL, hLL⟩ : ∃ LL, Hid (partB b c = LL) := ⟨_, rfl⟩
  rw [hLL.out]
  by_cases h99 : b = 99
  · subst h99
    obtain ⟨c0, c1⟩ := h.client rfl
    obtain ⟨cl, hcl⟩ := Int.eq_ofNat_of_zero_le c0
    rw [hcl] at x1 hV c1 ⊢
    have HE : Hid (LL = enc cl) := by rw [← hLL.out]; simp [Hid, partB, hcl]
    clear hcl c0
    go_enter Tryz.func66, Tryz.ntmps66
    go_wp2_with fail
    rw [← hV]
    clear hV
    refine (rputUint_any cl _ (by omega)).mono ?_
    rintro e w1 ⟨v1, rfl, o1, hb1⟩
    have O1 : Hid (w1.ownsRow w.heap.size 5 1 v1 LL.length (LL.map (Value.int .u8))) := by rw [HE.out]; exact own_more o1 hVs
    have B1 : Hid (Below w.heap.size w w1) := BV.out.trans (hb1.mono hVs)
    clear hb1 o1
    go_wp2
    go_ret
    exact ⟨_, rfl, O1.out, B1.out⟩
  by_cases h114 : b = 114
  · subst h114
    obtain ⟨c0, c1⟩ := h.req rfl
    obtain ⟨cl, hcl⟩ := Int.eq_ofNat_of_zero_le c0
    rw [hcl] at x2 hV c1 ⊢
    have HE : Hid (LL = enc cl) := by rw [← hLL.out]; simp [Hid, partB, hcl]
    clear hcl c0
    go_enter Tryz.func66, Tryz.ntmps66
    go_wp2_with fail
    rw [← hV]
    clear hV
    refine (rputUint_any cl _ (by omega)).mono ?_
    rintro e w1 ⟨v1, rfl, o1, hb1⟩
    have O1 : Hid (w1.ownsRow w.heap.size 5 1 v1 LL.length (LL.map (Value.int .u8))) := by rw [HE.out]; exact own_more o1 hVs
    have B1 : Hid (Below w.heap.size w w1) := BV.out.trans (hb1.mono hVs)
    clear hb1 o1
    go_wp2
    go_ret
    exact ⟨_, rfl, O1.out, B1.out⟩
  by_cases h107 : b = 107
  · subst h107
    have HE : Hid (LL = ptx c.key) := by rw [← hLL.out]; simp [Hid, partB]
    go_enter Tryz.func66, Tryz.ntmps66
    go_wp2_with fail
    rw [← hV]
    clear hV
    refine (rputText_any c.key _ hk).mono ?_
    rintro e w1 ⟨v1, rfl, o1, hb1⟩
    have O1 : Hid (w1.ownsRow w.heap.size 5 1 v1 LL.length (LL.map (Value.int .u8))) := by rw [HE.out]; exact own_more o1 hVs
    have B1 : Hid (Below w.heap.size w w1) := BV.out.trans (hb1.mono hVs)
    clear hb1 o1
    go_wp2
    go_ret
    exact ⟨_, rfl, O1.out, B1.out⟩
  by_cases h106 : b = 106
  · subst h106
    obtain ⟨k0, k1, j0, j1⟩ := h.key2 rfl
    have sle := shared_le c.key c.key2
    obtain ⟨sh, hsh⟩ : ∃ sh, Hid (shared c.key c.key2 = sh) := ⟨_, rfl⟩
    rw [hsh.out] at sle
    have ls := enc_le sh (by omega)
    have hst := str_from' c.key2 sh (by omega)
    obtain ⟨rs, hrs⟩ : ∃ rs, Hid (c.key2.extract sh c.key2.size = rs) := ⟨_, rfl⟩
    have lrs : rs.size = c.key2.size - sh := by rw [← hrs.out, ByteArray.size_extract]; omega
    rw [hrs.out] at hst
    have lq := enc_le rs.size (by omega)
    have lpr : (ptx rs).length = (enc rs.size).length + rs.size := by unfold ptx; rw [List.length_append, tx_len]
    have HE : Hid (LL = enc sh ++ ptx rs) := by rw [← hLL.out]; simp [Hid, partB, hsh.out, hrs.out]
    go_enter Tryz.func66, Tryz.ntmps66
    go_wp2_with fail
    rw [← hV]
    clear hV
    refine (rshared_any c.key c.key2 _ hk hk2).mono ?_
    rintro e w1 ⟨rfl, q1, hq1⟩
    rw [hsh.out]
    have B1 : Hid (Below V.heap.size V w1) := by rw [hq1]; exact ⟨rfl, rfl, rfl, Nat.le_refl _, fun _ _ => rfl⟩
    have s1 : V.heap.size ≤ w1.heap.size := B1.out.size
    clear hq1 x0 x1 x2 x3 x4 x5 x6 x7
    go_wp2_with fail
    refine (rputUint_any sh _ (by omega)).mono ?_
    rintro e w2 ⟨v2, rfl, o2, hb2⟩
    have O2 := hide o2
    have B2 : Hid (Below V.heap.size V w2) := B1.out.trans (hb2.mono s1)
    have s2 : V.heap.size ≤ w2.heap.size := B2.out.size
    clear hb2 o2 B1
    obtain ⟨x0, x1, x2, x3, x4, x5, x6, x7⟩ := X.out.below B2.out (Nat.le_refl _)
    go_wp2_with fail
    refine (rputText_any rs _ (by omega)).mono ?_
    rintro e w3 ⟨v3, rfl, o3, hb3⟩
    obtain ⟨g3, c3, hv3, S3, hg3, hl3⟩ := own_mine (l := ptx rs) o3 (by omega)
    subst hv3
    have O3 := hide (own_more (B' := V.heap.size) (own_below O2.out hb3 (Nat.le_refl _)) (by omega))
    have HS3 := hide S3
    have sep : Hid (v2.ownBlock ≠ some g3) := by
      intro e
      have := (World.ownsRow.lt O2.out g3 e).2
      omega
    have B3 : Hid (Below V.heap.size V w3) := B2.out.trans (hb3.mono s2)
    have s3 : V.heap.size ≤ w3.heap.size := B3.out.size
    have tot : Hid ((enc sh).length + (ptx rs).length ≤ 1000000) := by show (enc sh).length + (ptx rs).length ≤ 1000000; omega
    clear hb3 o3 S3 B2 O2 x0 x1 x2 x3 x4 x5 x6 x7 lpr lq lrs ls
    generalize (ptx rs).length = m3 at *
    go_wp2_with fail
    refine (rjoin_any V.heap.size g3 c3 m3 v2 (enc sh) (ptx rs) _ O3.out HS3.out hl3 sep.out tot.out s3).mono ?_
    rintro e w4 ⟨v4, rfl, o4, hb4⟩
    have O4 : Hid (w4.ownsRow w.heap.size 5 1 v4 LL.length (LL.map (Value.int .u8))) := by rw [HE.out]; exact own_more o4 hVs
    have B4 : Hid (Below w.heap.size w w4) := BV.out.trans ((B3.out.trans hb4).mono hVs)
    clear hb4 o4
    go_wp2
    go_ret
    exact ⟨_, rfl, O4.out, B4.out⟩
  by_cases h111 : b = 111
  · subst h111
    have h1 := h.old rfl
    have HE : Hid (LL = ptx c.old) := by rw [← hLL.out]; simp [Hid, partB]
    go_enter Tryz.func66, Tryz.ntmps66
    go_wp2_with fail
    rw [← hV]
    clear hV
    refine (rputText_any c.old _ (by omega)).mono ?_
    rintro e w1 ⟨v1, rfl, o1, hb1⟩
    have O1 : Hid (w1.ownsRow w.heap.size 5 1 v1 LL.length (LL.map (Value.int .u8))) := by rw [HE.out]; exact own_more o1 hVs
    have B1 : Hid (Below w.heap.size w w1) := BV.out.trans (hb1.mono hVs)
    clear hb1 o1
    go_wp2
    go_ret
    exact ⟨_, rfl, O1.out, B1.out⟩
  by_cases h118 : b = 118
  · subst h118
    have h1 := h.val rfl
    have HE : Hid (LL = ptx c.val) := by rw [← hLL.out]; simp [Hid, partB]
    go_enter Tryz.func66, Tryz.ntmps66
    go_wp2_with fail
    rw [← hV]
    clear hV
    refine (rputText_any c.val _ (by omega)).mono ?_
    rintro e w1 ⟨v1, rfl, o1, hb1⟩
    have O1 : Hid (w1.ownsRow w.heap.size 5 1 v1 LL.length (LL.map (Value.int .u8))) := by rw [HE.out]; exact own_more o1 hVs
    have B1 : Hid (Below w.heap.size w w1) := BV.out.trans (hb1.mono hVs)
    clear hb1 o1
    go_wp2
    go_ret
    exact ⟨_, rfl, O1.out, B1.out⟩
  have g1 : (b == 99) = false := by simpa using h99
  have g2 : (b == 114) = false := by simpa using h114
  have g3 : (b == 107) = false := by simpa using h107
  have g4 : (b == 106) = false := by simpa using h106
  have g5 : (b == 111) = false := by simpa using h111
  have g6 : (b == 118) = false := by simpa using h118
  have HE : Hid (LL = enc (zig c.n)) := by rw [← hLL.out]; simp [Hid, partB, h99, h114, h107, h106, h111, h118]
  clear h99 h114 h107 h106 h111 h118
  go_enter Tryz.func66, Tryz.ntmps66
  go_wp2_with fail
  rw [← hV]
  clear hV
  refine (rputInt_any c.n _ hn1 hn2).mono ?_
  rintro e w1 ⟨v1, rfl, o1, hb1⟩
  have O1 : Hid (w1.ownsRow w.heap.size 5 1 v1 LL.length (LL.map (Value.int .u8))) := by rw [HE.out]; exact own_more o1 hVs
  have B1 : Hid (Below w.heap.size w w1) := BV.out.trans (hb1.mono hVs)
  clear hb1 o1
  go_wp2
  go_ret
  exact ⟨_, rfl, O1.out, B1.out⟩
end Go.Proofs.YtnogdjpbnhnmaaaGreatDoor
/- The contract of the document's own Encode. -/
namespace Go.Proofs.YtnogdjpbnhnmaaaGreatDoor
open Go.RowKit Go.Wire1

theorem keep8 {w w' : World} {B g : Nat} {kind client req : Int} {key key2 val old : ByteArray} {n : Int} (h : CBox w g kind client req key key2 val old n) (hb : Below B w w') (hB : w.heap.size ≤ B) : CBox w' g kind client req key key2 val old n := h.below hb hB

set_option maxHeartbeats 1000000 in
set_option maxRecDepth 100000 in
theorem rencode_any (v : Int) (c : Cm) (w : World) (hk : c.key.size ≤ 140737488351232) (hk2 : c.key2.size ≤ 140737488351232) (hn1 : -9223372036854775808 ≤ c.n) (hn2 : c.n ≤ 9223372036854775807) (hz : chk v c = 0) :
    Calls Tryz.prog 31 #[.int .i64 v, .agg #[.int .i64 c.kind, .int .i64 c.client, .int .i64 c.req, .string c.key, .string c.key2, .string c.val, .string c.old, .int .i64 c.n]] w fun e w' => ∃ u, e = .returned (.tuple #[u, .int .i64 0]) ∧ w'.ownsRow w.heap.size 5 1 u (encC c).length ((encC c).map (Value.int .u8)) ∧ Below w.heap.size w w' := by
  obtain ⟨i0, hi0, hz0, hz1, hz2⟩ := info_parts Tryz.info5
  have HS := hide (sound_of hz)
  have HZ := hide hz
  obtain ⟨V, hV⟩ : ∃ V, V = w.alloc (.cells #[.int .i64 c.kind, .int .i64 c.client, .int .i64 c.req, .string c.key, .string c.key2, .string c.val, .string c.old, .int .i64 c.n] 28) := ⟨_, rfl⟩
  have X : Hid (CBox V w.heap.size c.kind c.client c.req c.key c.key2 c.val c.old c.n) := by rw [hV]; exact cbox_new w 28 _ _ _ _ _ _ _ _
  have BV : Hid (Below w.heap.size w V) := by rw [hV]; exact (Below.refl _ _).alloc (Nat.le_refl _) _
  have hVs : w.heap.size ≤ V.heap.size := BV.out.size
  obtain ⟨LL, hLL⟩ : ∃ LL, Hid (encC c = LL) := ⟨_, rfl⟩
  rw [hLL.out]
  have h0 := HS.out.k0
  have h8 := HS.out.k8
  obtain ⟨kd, hkd⟩ := Int.eq_ofNat_of_zero_le h0
  have hkd8 : kd ≤ 8 := by omega
  have HKD : Hid (c.kind = (kd : Int)) := hkd
  obtain ⟨s, hs⟩ : ∃ s, Hid (fldS c.kind = s) := ⟨_, rfl⟩
  have h5 : s.size ≤ 5 := by rw [← hs.out]; exact fldS_size _
  have hse : Hid (c.kind = 0 → s.size = 0) := fun e => by rw [← hs.out, e]; rfl
  have PA : Hid (preB c s.size = LL) := by rw [← hs.out, preB_all h0 h8]; exact hLL
  obtain ⟨x0, x1, x2, x3, x4, x5, x6, x7⟩ := X.out
  clear hz h0 h8 hkd
  go_enter Tryz.func31, Tryz.ntmps31
  go_wp2_with fail
  rw [← hV]
  clear hV
  refine (rcheck_any v c _).mono ?_
  rintro e w1 ⟨rfl, hb1⟩
  rw [HZ.out]
  have B1 : Hid (Below V.heap.size V w1) := hb1
  have s1 : V.heap.size ≤ w1.heap.size := hb1.size
  clear hb1 x0 x1 x2 x3 x4 x5 x6 x7
  have Y1 := X.out.below B1.out (Nat.le_refl _)
  rw [HKD.out] at Y1
  obtain ⟨x0, x1, x2, x3, x4, x5, x6, x7⟩ := Y1
  have hlt : w.heap.size < w1.heap.size := cell_lt x0
  have hwr : IntKind.u8.wrap (kd : Int) = (kd : Int) := by simp only [IntKind.wrap_u8]; omega
  go_wp2_with (first
    | (at_builtin; refine wpList_append_own _ rfl _ _ 22 rfl V.heap.size 5 i0 (.int .u8 0) 1 1 Tryz.underlying22 hi0 hz0 hz1 hz2 rfl (by decide) _ _ _ rfl (World.ownsRow_nil _ _ _ _) ⟨w1.heap.size, 0, none⟩ 1 1 [.int .u8 (kd : Int)] rfl rfl ?c1 ?c2 ?c3 ?c4 ?c5 ?_))
  case c1 =>
    intro j u hj
    match j, hj with
    | 0, hj => simp at hj; subst hj; simp [Addr.add, go_sem]
  case c2 => intro u hu; simp at hu; subst hu; rfl
  case c3 => unfold maxLen; omega
  case c4 => omega
  case c5 => simp; omega
  intro u2 w2 hown hg _
  have O2 : Hid (w2.ownsRow V.heap.size 5 1 u2 (preB c 0).length ((preB c 0).map (Value.int .u8))) := by
    rw [show preB c 0 = [(kd : Int)] by unfold preB; rw [HKD.out]; rfl]; exact hown
  have B2 : Hid (Below V.heap.size V w2) := (B1.out.alloc s1 _).grown hg (by simp; omega) (fun j hj => by simp [Value.ownBlock] at hj)
  have s2 : V.heap.size ≤ w2.heap.size := B2.out.size
  clear hown hg x0 x1 x2 x3 x4 x5 x6 x7 hlt
  obtain ⟨x0, x1, x2, x3, x4, x5, x6, x7⟩ := X.out.below B2.out (Nat.le_refl _)
  go_wp2_with fail
  refine (rfields_any c.kind _).mono ?_
  rintro e w2' ⟨rfl, rfl⟩
  rw [hs.out]
  clear x0 x1 x2 x3 x4 x5 x6 x7
  go_wp2_with fail
  go_loopw [7, 9] (fun u x wr => ∃ i : Nat, x = .int .i64 (i : Int) ∧ i ≤ s.size ∧ Hid ((preB c i).length ≤ 1 + i * 70000) ∧ Hid (wr.ownsRow V.heap.size 5 1 u (preB c i).length ((preB c i).map (Value.int .u8))) ∧ Hid (Below V.heap.size V wr)) (fun _ x _ => s.size - (intOf x).toNat)
  case atStart => exact ⟨0, rfl, by omega, by simp [Hid, preB], O2, B2⟩
  case round =>
    obtain ⟨i, rfl, hi, HL, HO, HB⟩ := hrel
    have hws := HB.out.size
    by_cases hlt : i < s.size
    · have hk0 : c.kind ≠ 0 := fun e => by have := hse.out e; omega
      have PO : Hid (PartOk (tb s i) c) := by rw [← hs.out]; exact part_ok HS.out hk0 (by omega)
      have PL := part_len PO.out ⟨hn1, hn2⟩
      have PN : Hid (preB c (i + 1) = preB c i ++ partB (tb s i) c) := by rw [← hs.out]; exact preB_next c i
      have hix := tb_index s i hlt
      obtain ⟨b, hb⟩ : ∃ b, Hid (tb s i = b) := ⟨_, rfl⟩
      obtain ⟨E, hE⟩ : ∃ E, Hid (partB b c = E) := ⟨_, rfl⟩
      obtain ⟨P, hP⟩ : ∃ P, Hid (preB c i = P) := ⟨_, rfl⟩
      rw [hb.out] at hix PO PL PN
      rw [hE.out] at PL PN
      rw [hP.out] at HL HO PN
      obtain ⟨x0, x1, x2, x3, x4, x5, x6, x7⟩ := X.out.below HB.out (Nat.le_refl _)
      go_wp2
      go_region_held3 (fun w' => w'.cell? ⟨w.heap.size, 0, none⟩ = some (.int .i64 c.kind) ∧ w'.cell? ⟨w.heap.size, 1, none⟩ = some (.int .i64 c.client) ∧ w'.cell? ⟨w.heap.size, 2, none⟩ = some (.int .i64 c.req) ∧ w'.cell? ⟨w.heap.size, 3, none⟩ = some (.string c.key) ∧ w'.cell? ⟨w.heap.size, 4, none⟩ = some (.string c.key2) ∧ w'.cell? ⟨w.heap.size, 5, none⟩ = some (.string c.val) ∧ w'.cell? ⟨w.heap.size, 6, none⟩ = some (.string c.old) ∧ w'.cell? ⟨w.heap.size, 7, none⟩ = some (.int .i64 c.n)) (first | go_keep | (exact keep8 (w := wr.drew) ⟨x0, x1, x2, x3, x4, x5, x6, x7⟩ hb5 (Nat.le_refl _))) (first | (go_at_call 66; refine (rpart_any b c _ PO.out hn1 hn2 hk hk2).mono ?_; rintro e w5 ⟨u5, rfl, o5, hb5⟩))
      rw [hE.out] at o5
      obtain ⟨m, hm⟩ : ∃ m, Hid (E.length = m) := ⟨_, rfl⟩
      obtain ⟨g5, c5, hu5, S5, hg5, hl5⟩ := own_mine o5 (by omega)
      subst hu5
      rw [hm.out] at S5 PL ⊢
      have O5 := hide (own_below (w := wr.drew) HO.out hb5 (Nat.le_refl _))
      have HS5 := hide S5
      have sep : Hid (Value.ownBlock _ ≠ some g5) := fun e => by
        have h1 := (World.ownsRow.lt HO.out g5 e).2
        have h2 : wr.heap.size ≤ g5 := hg5
        omega
      have B5 : Hid (Below V.heap.size V w5) := HB.out.drew.trans (hb5.mono hws)
      have s5 : V.heap.size ≤ w5.heap.size := B5.out.size
      have tot : Hid (P.length + m ≤ 1000000) := by have := HL.out; show P.length + m ≤ 1000000; omega
      have nx : Hid ((preB c (i + 1)).length ≤ 1 + (i + 1) * 70000) := by
        have := HL.out
        rw [PN.out, List.length_append, hm.out]
        show P.length + m ≤ 1 + (i + 1) * 70000
        omega
      clear hb5 o5 S5 HO HB HL x0 x1 x2 x3 x4 x5 x6 x7 hws hg5
      go_wp2_with fail
      refine (rjoin_any V.heap.size g5 c5 m _ P E _ O5.out HS5.out hl5 sep.out tot.out s5).mono ?_
      rintro e w6 ⟨u6, rfl, o6, hb6⟩
      rw [← PN.out] at o6
      have O6 := hide o6
      have B6 : Hid (Below V.heap.size V w6) := B5.out.trans hb6
      clear hb6 o6 B5 O5 HS5
      go_wp2
      go_roundw
      case rel => exact ⟨i + 1, by go_num, by omega, nx, O6, B6⟩
      case measure => simp [intOf]; omega
    · have PE : Hid (preB c i = LL) := by rw [show i = s.size by omega]; exact PA
      rw [PE.out] at HO
      go_wp2
      go_ret2
      exact ⟨_, rfl, own_more HO.out hVs, BV.out.trans (HB.out.mono hVs)⟩

end Go.Proofs.YtnogdjpbnhnmaaaGreatDoor
