/- The statements' pair of disks: plays at any step; a list of steps in memory that plays no part in the pairs. -/
import Derived.Test.YtahpnfbjpdnapaaDkPlay
import Derived.Test.YtahpnfbjpdnapaaDkArgs
namespace Go.Proofs.Ytahpnfbjpdnapaa
open Go.RowKit Go.Wire1 Go.MuLone

/-- A pair of disks, whatever it holds. -/
def PA (w : World) (ro : Nat → Nat) (o pb E0 : Nat) : Prop := ∃ b rb pv sv tv rv S T R, Par w ro o pb b rb pv sv tv rv S T R E0
theorem PA.lt {w : World} {ro : Nat → Nat} {o pb E0 : Nat} (h : PA w ro o pb E0) : pb < w.heap.size ∧ E0 ≤ pb := by
  obtain ⟨b, rb, pv, sv, tv, rv, S, T, R, h⟩ := h
  exact ⟨h.box.lt, h.low⟩
theorem PA.later {w w' : World} {ro : Nat → Nat} {o pb E0 : Nat} (h : PA w ro o pb E0) (hb : Below w.heap.size w w') : PA w' ro o pb E0 := by
  obtain ⟨b, rb, pv, sv, tv, rv, S, T, R, h⟩ := h
  exact ⟨_, _, _, _, _, _, _, _, _, h.later hb⟩
theorem PA.rerole {w : World} {ro ro' : Nat → Nat} {o pb E0 : Nat} (h : PA w ro o pb E0) (e : ∀ k, k < w.heap.size → ro' k = ro k) : PA w ro' o pb E0 := by
  obtain ⟨b, rb, pv, sv, tv, rv, S, T, R, h⟩ := h
  exact ⟨_, _, _, _, _, _, _, _, _, h.rerole e⟩
/-- The other pair stays. -/
theorem PA.other {w w' : World} {ro ro' : Nat → Nat} {o pb o' pb' E0 : Nat} (h : PA w ro o' pb' E0) (e : ∀ k, k < w.heap.size → ro' k = ro k) (s : Stp9 w w' ro o pb E0) (sep : o' + 4 < o + 1 ∨ o + 4 < o' + 1) : PA w' ro' o' pb' E0 := by
  obtain ⟨b, rb, pv, sv, tv, rv, S, T, R, h⟩ := h
  exact ⟨_, _, _, _, _, _, _, _, _, (h.rerole e).frame (fun j hj h1 h2 => s.keep j hj (by rw [← e j hj]; omega))⟩
theorem Stp9.below {w w' : World} {ro : Nat → Nat} {o pb E0 : Nat} (s : Stp9 w w' ro o pb E0) (hz : ∀ k, k < E0 → ro k = 0) (hE : E0 ≤ w.heap.size) : Below E0 w w' :=
  ⟨s.os, s.tape, s.output, s.size, fun k hk => s.keep k (by omega) (by rw [hz k hk]; omega)⟩
theorem Stp9.pa {w w' : World} {ro : Nat → Nat} {o pb E0 : Nat} (s : Stp9 w w' ro o pb E0) : ∃ ro', (∀ k, k < w.heap.size → ro' k = ro k) ∧ PA w' ro' o pb E0 := by
  obtain ⟨ro', b, rb, pv, sv, tv, rv, S, T, R, e, h⟩ := s.ex
  exact ⟨ro', e, _, _, _, _, _, _, _, _, _, h⟩

theorem take_tail (S T : List Int) (q : Nat) : (S ++ T).take (S.length + q) = S ++ T.take q := by
  rw [List.take_append]; simp [List.take_of_length_le]

theorem plays_any (w : World) (ro : Nat → Nat) (o pb E0 : Nat) (hp : PA w ro o pb E0) (d : OpD) (ok : OdOk w d) (hda : ∀ x, d.da = some x → 0 < d.dn → x.block < w.heap.size ∧ (ro x.block < o + 1 ∨ o + 4 < ro x.block)) :
    Calls Try.prog 15 #[.pointer (some ⟨pb, 0, none⟩), .agg #[.int .i64 d.kind, .bool d.second, .int .i64 d.a, .int .i64 d.x, .int .i64 d.t, .slice d.da d.dn d.dc]] w fun r w' => r = .returned (.bool true) ∧ Stp9 w w' ro o pb E0 := by
  obtain ⟨b, rb, pv, sv, tv, rv, S, T, R, h⟩ := hp
  obtain ⟨kd, sc, ai, xi, ti, da, dn, dc, dl⟩ := d
  obtain ⟨hseg, hbyt, hnil, htop, hba, hbx, hbt⟩ := ok
  simp only at hda hseg hbyt hnil htop hba hbx hbt ⊢
  have hlen : (S ++ T).length = S.length + T.length := List.length_append
  by_cases h1 : kd = 1
  · subst h1
    refine plays_1 w ro o pb b rb pv sv tv rv S T R E0 h sc ai xi ti da dn dc (fun w0 ro0 hb ag P => ?_)
    have hs0 : Seg w0 da dn dl := hseg.below hb (Nat.le_refl _)
    have hd0 : ∀ x, da = some x → 0 < dn → x.block < w0.heap.size ∧ (ro0 x.block < o + 1 ∨ o + 4 < ro0 x.block) := fun x hx h0 => by
      obtain ⟨e1, e2⟩ := hda x hx h0
      rw [ag _ e1]
      exact ⟨Nat.lt_of_lt_of_le e1 hb.size, e2⟩
    by_cases hf : 4194304 < S.length + T.length + (fillL dl ti).length
    · exact papp_no w0 ro0 o pb b rb pv sv tv rv S T R E0 P 1 sc ai xi ti da dn dc _ dl _ hs0 hbyt htop hbt hd0 rfl rfl hf
    · exact papp_yes w0 ro0 o pb b rb pv sv tv rv S T R E0 P 1 sc ai xi ti da dn dc _ dl _ hs0 hbyt htop hbt hd0 rfl rfl (by omega)
  by_cases h7 : kd = 7
  · subst h7
    refine plays_7 w ro o pb b rb pv sv tv rv S T R E0 h sc ai xi ti da dn dc (fun w0 ro0 hb ag P => ?_)
    have hs0 : Seg w0 da dn dl := hseg.below hb (Nat.le_refl _)
    have hd1 : ∀ x, da = some x → 0 < dn → x.block ≠ pb ∧ rv.ownBlock ≠ some x.block := fun x hx h0 => by
      obtain ⟨e1, e2⟩ := hda x hx h0
      exact ⟨fun e => by have := h.q1; rw [e] at e2; omega, fun e => by have := h.q4 _ e; omega⟩
    by_cases hf : 4194304 < (fillL dl ti).length
    · exact (pimage_full w0 ro0 o pb b rb pv sv tv rv S T R E0 P 7 sc ai xi ti da dn dc _ dl _ hs0 hbyt htop hbt hd1 rfl rfl hf).mono (fun e w' ⟨he, hi⟩ => ⟨he, Stp9.ofImg P hi⟩)
    by_cases hz : ai < 0
    · exact (pimage_low w0 ro0 o pb b rb pv sv tv rv S T R E0 P 7 sc ai xi ti da dn dc _ dl _ hs0 hbyt htop hbt hd1 rfl rfl (by omega) hz).mono (fun e w' ⟨he, hi⟩ => ⟨he, Stp9.ofImg P hi⟩)
    by_cases hz2 : ((fillL dl ti).length : Int) < ai
    · exact (pimage_high w0 ro0 o pb b rb pv sv tv rv S T R E0 P 7 sc ai xi ti da dn dc _ dl _ hs0 hbyt htop hbt hd1 rfl rfl (by omega) hz hz2).mono (fun e w' ⟨he, hi⟩ => ⟨he, Stp9.ofImg P hi⟩)
    obtain ⟨kk, rfl⟩ := Int.eq_ofNat_of_zero_le (show 0 ≤ ai by omega)
    exact (pimage_yes w0 ro0 o pb b rb pv sv tv rv S T R E0 P 7 sc kk xi ti da dn dc _ dl _ hs0 hbyt htop hbt hd1 rfl rfl (by omega) (by omega)).mono (fun e w' ⟨he, b', rb', pv', sv', tv', hi⟩ => ⟨he, Stp9.ofImg P hi⟩)
  by_cases h2 : kd = 2
  · subst h2
    exact plays_2 w ro o pb b rb pv sv tv rv S T R E0 h sc ai xi ti da dn dc
  by_cases h6 : kd = 6
  · subst h6
    exact plays_6 w ro o pb b rb pv sv tv rv S T R E0 h sc ai xi ti da dn dc
  by_cases h3 : kd = 3
  · subst h3
    by_cases hz : ai < 0
    · exact plays_3 w ro o pb b rb pv sv tv rv S T R E0 h sc ai xi ti da dn dc 1 S T
        (fun w0 hd => (crash_no w0 b pv _ _ _ ai hd hz).mono (fun e w' ⟨he, hb⟩ => ⟨he, pv, hd.stay hb⟩))
        (fun w0 hr => (rcrash_no w0 rb sv tv S T E0 ai hz).mono (fun e w' ⟨he, hb⟩ => ⟨he, sv, tv, hr.stay hb⟩))
    obtain ⟨q, rfl⟩ := Int.eq_ofNat_of_zero_le (show 0 ≤ ai by omega)
    have hq : (q : Int) ≤ 9223372036854775807 := hba.2
    refine plays_3 w ro o pb b rb pv sv tv rv S T R E0 h sc q xi ti da dn dc 0 S (T.take q) (fun w0 hd => ?_)
        (fun w0 hr => (rcrash_yes w0 rb sv tv S T E0 q hq hr).mono (fun e w' ⟨he, tv', hb⟩ => ⟨he, sv, tv', hb⟩))
    have e : (S ++ T).take (S.length + min q ((S ++ T).length - S.length)) = S ++ T.take q := by
      rw [take_tail, hlen, Nat.add_sub_cancel_left]
      by_cases hq2 : q ≤ T.length
      · rw [Nat.min_eq_left hq2]
      · rw [Nat.min_eq_right (by omega), List.take_of_length_le (Nat.le_refl _), List.take_of_length_le (by omega)]
    have := crash_yes w0 b pv (S ++ T) S.length E0 q hd hq
    rw [e] at this
    exact this
  by_cases h4 : kd = 4
  · subst h4
    by_cases hz : ai < (S.length : Int)
    · exact plays_4 w ro o pb b rb pv sv tv rv S T R E0 h sc ai xi ti da dn dc 93 S T
        (fun w0 hd => (cut_no w0 b pv _ _ _ ai hd (.inl hz)).mono (fun e w' ⟨he, hb⟩ => ⟨he, pv, hd.stay hb⟩))
        (fun w0 hr => (rcut_low w0 rb sv tv S T E0 ai hr hz).mono (fun e w' ⟨he, hb⟩ => ⟨he, sv, tv, hr.stay hb⟩))
    by_cases hz2 : (S.length : Int) + (T.length : Int) < ai
    · exact plays_4 w ro o pb b rb pv sv tv rv S T R E0 h sc ai xi ti da dn dc 93 S T
        (fun w0 hd => (cut_no w0 b pv _ _ _ ai hd (.inr (by rw [hlen]; omega))).mono (fun e w' ⟨he, hb⟩ => ⟨he, pv, hd.stay hb⟩))
        (fun w0 hr => (rcut_high w0 rb sv tv S T E0 ai hr hz hz2).mono (fun e w' ⟨he, hb⟩ => ⟨he, sv, tv, hr.stay hb⟩))
    obtain ⟨kk, hkk⟩ := Int.eq_ofNat_of_zero_le (show 0 ≤ ai - (S.length : Int) by omega)
    obtain rfl : ai = (S.length : Int) + (kk : Int) := by omega
    have hk : kk ≤ T.length := by omega
    refine plays_4 w ro o pb b rb pv sv tv rv S T R E0 h sc _ xi ti da dn dc 0 S (T.take kk) (fun w0 hd => ?_)
        (fun w0 hr => (rcut_yes w0 rb sv tv S T E0 kk hr hk).mono (fun e w' ⟨he, tv', hb⟩ => ⟨he, sv, tv', hb⟩))
    have := cut_yes w0 b pv (S ++ T) S.length E0 (S.length + kk) hd (by rw [hlen]; omega) (by omega)
    rw [take_tail, Int.natCast_add] at this
    exact this
  by_cases h5 : kd = 5
  · subst h5
    by_cases hz : ai < 0
    · exact plays_5 w ro o pb b rb pv sv tv rv S T R E0 h sc ai xi ti da dn dc 93 S T
        (fun w0 hd => (rot_low w0 b pv _ _ _ ai xi hd hz).mono (fun e w' ⟨he, hb⟩ => ⟨he, pv, hd.stay hb⟩))
        (fun w0 hr => (rrot_low w0 rb sv tv S T E0 ai xi hr hz).mono (fun e w' ⟨he, hb⟩ => ⟨he, sv, tv, hr.stay hb⟩))
    by_cases hz2 : (S.length : Int) + (T.length : Int) ≤ ai
    · exact plays_5 w ro o pb b rb pv sv tv rv S T R E0 h sc ai xi ti da dn dc 93 S T
        (fun w0 hd => (rot_high w0 b pv _ _ _ ai xi hd hz (by rw [hlen]; omega)).mono (fun e w' ⟨he, hb⟩ => ⟨he, pv, hd.stay hb⟩))
        (fun w0 hr => (rrot_high w0 rb sv tv S T E0 ai xi hr hz hz2).mono (fun e w' ⟨he, hb⟩ => ⟨he, sv, tv, hr.stay hb⟩))
    by_cases hx : xi < 1
    · exact plays_5 w ro o pb b rb pv sv tv rv S T R E0 h sc ai xi ti da dn dc 94 S T
        (fun w0 hd => (rot_zero w0 b pv _ _ _ ai xi hd hz (by rw [hlen]; omega) hx).mono (fun e w' ⟨he, hb⟩ => ⟨he, pv, hd.stay hb⟩))
        (fun w0 hr => (rrot_zero w0 rb sv tv S T E0 ai xi hr hz (by omega) hx).mono (fun e w' ⟨he, hb⟩ => ⟨he, sv, tv, hr.stay hb⟩))
    by_cases hx2 : 255 < xi
    · exact plays_5 w ro o pb b rb pv sv tv rv S T R E0 h sc ai xi ti da dn dc 94 S T
        (fun w0 hd => (rot_wide w0 b pv _ _ _ ai xi hd hz (by rw [hlen]; omega) hx hx2).mono (fun e w' ⟨he, hb⟩ => ⟨he, pv, hd.stay hb⟩))
        (fun w0 hr => (rrot_wide w0 rb sv tv S T E0 ai xi hr hz (by omega) hx hx2).mono (fun e w' ⟨he, hb⟩ => ⟨he, sv, tv, hr.stay hb⟩))
    obtain ⟨x, rfl⟩ := Int.eq_ofNat_of_zero_le (show 0 ≤ xi by omega)
    have bS : Byt S := fun z hz => h.d.byt z (List.mem_append_left _ hz)
    have bT : Byt T := fun z hz => h.d.byt z (List.mem_append_right _ hz)
    by_cases hk : ai < (S.length : Int)
    · obtain ⟨k, rfl⟩ := Int.eq_ofNat_of_zero_le (show 0 ≤ ai by omega)
      have hk2 : k < S.length := by omega
      refine plays_5 w ro o pb b rb pv sv tv rv S T R E0 h sc k x ti da dn dc 0 (S.set k (rotZ (S.getD k 0) (x : Int))) T (fun w0 hd => ?_)
          (fun w0 hr => (rrot_safe w0 rb sv tv S T E0 k x hr hk2 (byt_at bS k) (by omega) (by omega)).mono (fun e w' ⟨he, hb⟩ => ⟨he, sv, tv, hb⟩))
      have := rot_yes w0 b pv (S ++ T) S.length E0 k x hd (by rw [hlen]; omega) (by omega) (by omega)
      rw [List.set_append_left _ _ hk2, show (S ++ T).getD k 0 = S.getD k 0 from by simp [List.getD, List.getElem?_append_left hk2]] at this
      rw [List.length_set]
      exact this.mono (fun e w' ⟨he, hb⟩ => ⟨he, pv, hb⟩)
    · obtain ⟨k, hkk⟩ := Int.eq_ofNat_of_zero_le (show 0 ≤ ai - (S.length : Int) by omega)
      obtain rfl : ai = (S.length : Int) + (k : Int) := by omega
      have hk2 : k < T.length := by omega
      refine plays_5 w ro o pb b rb pv sv tv rv S T R E0 h sc _ x ti da dn dc 0 S (T.set k (rotZ (T.getD k 0) (x : Int))) (fun w0 hd => ?_)
          (fun w0 hr => (rrot_tail w0 rb sv tv S T E0 k x hr hk2 (byt_at bT k) (by omega) (by omega)).mono (fun e w' ⟨he, hb⟩ => ⟨he, sv, tv, hb⟩))
      have := rot_yes w0 b pv (S ++ T) S.length E0 (S.length + k) x hd (by rw [hlen]; omega) (by omega) (by omega)
      rw [List.set_append_right _ _ (by omega), Nat.add_sub_cancel_left, show (S ++ T).getD (S.length + k) 0 = T.getD k 0 from by simp [List.getD, List.getElem?_append_right], Int.natCast_add] at this
      exact this.mono (fun e w' ⟨he, hb⟩ => ⟨he, pv, hb⟩)
  exact plays_0 w ro o pb b rb pv sv tv rv S T R E0 h kd sc ai xi ti da dn dc h1 h2 h3 h4 h5 h6 h7

/-- A list of steps in memory that plays no part in the pairs. -/
structure OSegR (w : World) (ro : Nat → Nat) (a : Option Addr) (n : Nat) (ops : List OpD) : Prop where
  seg : OSeg w a n ops
  rb : ∀ x, a = some x → 0 < n → x.block < w.heap.size ∧ ro x.block = 0
  rd : ∀ i, i < n → ∀ x, (ops.getD i opdZ).da = some x → 0 < (ops.getD i opdZ).dn → x.block < w.heap.size ∧ ro x.block = 0
theorem OdAt.kept {w w' : World} {b p : Nat} {o : OpD} (h : OdAt w b p o) (hb : w'.heap[b]? = w.heap[b]?) : OdAt w' b p o :=
  ⟨(World.cell?_of_block hb).trans h.c0, (World.cell?_of_block hb).trans h.c1, (World.cell?_of_block hb).trans h.c2, (World.cell?_of_block hb).trans h.c3, (World.cell?_of_block hb).trans h.c4, (World.cell?_of_block hb).trans h.c5⟩
theorem OSegR.kept {w w' : World} {ro ro' : Nat → Nat} {a : Option Addr} {n : Nat} {ops : List OpD} (h : OSegR w ro a n ops) (hz : w.heap.size ≤ w'.heap.size) (e : ∀ k, k < w.heap.size → ro' k = ro k) (hk : ∀ k, k < w.heap.size → ro k = 0 → w'.heap[k]? = w.heap[k]?) : OSegR w' ro' a n ops := by
  refine ⟨⟨h.seg.len, h.seg.top, fun hn => ?_, fun i hi => ?_⟩, fun x hx hn => ?_, fun i hi x hx hn => ?_⟩
  · obtain ⟨b, off, rfl, hc⟩ := h.seg.at_ hn
    obtain ⟨h1, h2⟩ := h.rb _ rfl hn
    exact ⟨b, off, rfl, fun i hi => (hc i hi).kept (hk b h1 h2)⟩
  · obtain ⟨k1, k2, k3, k4, k5, k6, k7⟩ := h.seg.ok i hi
    refine ⟨⟨k1.1, k1.2.1, fun hn => ?_⟩, k2, k3, k4, k5, k6, k7⟩
    obtain ⟨c, off, ea, hc⟩ := k1.2.2 hn
    obtain ⟨h1, h2⟩ := h.rd i hi _ ea hn
    exact ⟨c, off, ea, fun j hj => (World.cell?_of_block (hk c h1 h2)).trans (hc j hj)⟩
  · obtain ⟨h1, h2⟩ := h.rb x hx hn
    exact ⟨by omega, (e _ h1).trans h2⟩
  · obtain ⟨h1, h2⟩ := h.rd i hi x hx hn
    exact ⟨by omega, (e _ h1).trans h2⟩
theorem OSegR.step {w w' : World} {ro ro' : Nat → Nat} {o pb E0 : Nat} {a : Option Addr} {n : Nat} {ops : List OpD} (h : OSegR w ro a n ops) (s : Stp9 w w' ro o pb E0) (e : ∀ k, k < w.heap.size → ro' k = ro k) : OSegR w' ro' a n ops :=
  h.kept s.size e (fun k hk hr => s.keep k hk (by omega))
theorem OSegR.at {w : World} {ro : Nat → Nat} {a : Option Addr} {n : Nat} {ops : List OpD} (h : OSegR w ro a n ops) (o : Nat) {i : Nat} (hi : i < n) : ∀ x, (ops.getD i opdZ).da = some x → 0 < (ops.getD i opdZ).dn → x.block < w.heap.size ∧ (ro x.block < o + 1 ∨ o + 4 < ro x.block) := fun x hx hn => by
  obtain ⟨h1, h2⟩ := h.rd i hi x hx hn
  exact ⟨h1, .inl (by omega)⟩
end Go.Proofs.Ytahpnfbjpdnapaa
