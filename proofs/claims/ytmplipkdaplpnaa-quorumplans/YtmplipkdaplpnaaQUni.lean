/- The contract of union. -/
import Derived.Test.YtmplipkdaplpnaaQEq
import Derived.Test.YtmplipkdaplpnaaVUnion
namespace Go.Proofs.Ytmplipkdaplpnaa
open Go.RowKit Go.Wire1

theorem wp_append_own_at {P : Program} {w : World} {o : Oper} {a : Act} {K : Act → World → Prop} {Q : Exit → Act → World → Prop} (_ : o.guard = none) (s x : Operand) (t : TypeId)
    (ho : o.op = .call { callee := .builtin .append, args := #[s, x], argTypes := #[t, t] })
    (base : Nat) (e : TypeId) (i : TypeInfo) (z : Value) (size bytes : Nat) (ht : P.underlying t = some (.slice e)) (hi : P.info? e = some i) (hz : i.zero = some z)
    (hsize : i.size = size) (hby : i.bytes = bytes) (hzs : z.cells.size = size) (hsz : 0 < size)
    (v : Value) (n : Nat) (xs : List Value) (hs : a.eval s = v) (hown : w.ownsRow base e size v n xs)
    (ad : Addr) (m c : Nat) (news : List Value) (hx : a.eval x = .slice (some ad) m c) (hl : news.length = m * size) (hnews : ∀ j u, news[j]? = some u → w.cell? (ad.add j) = some u) (h1 : ∀ u ∈ news, u.oneCell' = true)
    (h63 : n + m ≤ maxLen) (hbytes : (n + m) * bytes ≤ 140737488355328) (hbase : base ≤ w.heap.size)
    (h : ∀ v' w', w'.ownsRow base e size v' (n + m) (xs ++ news) → w.grownBy w' v.ownBlock → (v' = .slice none 0 0 ↔ v = .slice none 0 0 ∧ m = 0) → (v'.ownBlock = v.ownBlock ∨ v'.ownBlock = some w.heap.size) → K (a.put o.dst v') w') : o.wp P a w K Q := by
  obtain ⟨v', w', hr, h2, h3, h4, h5⟩ := run_append_own_at (P := P) w base t o.type e i z size bytes ht hi hz hsize hby hzs hsz v n xs hown ad m c news hl hnews h1 h63 hbytes hbase
  unfold Oper.wp execOp
  simp only [ho, resolve, invoke, builtin, Sem.run_bind, Sem.run_pure, Result.andThen_ok, List.map_toArray, List.map_cons, List.map_nil, hs, hx, hr]
  exact h v' w' h2 h3 h4 h5
theorem grown_set (w : World) (g k : Nat) (v : Value) : w.grownBy (w.setCell ⟨g, k, none⟩ v) (some g) := ⟨rfl, rfl, rfl, by simp [World.setCell], fun i _ hne => heap_setCell_other w ⟨g, k, none⟩ i v (fun e => hne (by rw [e]))⟩
theorem infoLQ : (Try.prog.info? 22).map (fun i => (i.zero, i.size, i.bytes)) = some (some (.slice none 0 0), 1, 24) := by kernel_rfl

/-- The greatest Seq, the joined Deps. -/
def uSeq (seq : Int) (vs : List Vt) : Int := vs.foldl (fun s v => max s v.seq) seq
def uDeps (l : List Int) (vs : List Vt) : List Int := unionL (l :: vs.map (·.deps))
theorem uSeq_snoc (seq : Int) (vs : List Vt) (v : Vt) : uSeq seq (vs ++ [v]) = max (uSeq seq vs) v.seq := by unfold uSeq; rw [List.foldl_append]; rfl
def liOf (v : Vt) : LI := ⟨v.da, v.dn, v.dc, v.deps⟩
set_option maxHeartbeats 4000000 in
set_option maxRecDepth 100000 in
theorem quni_any (seq : Int) (a : Option Addr) (k c : Nat) (l : List Int) (ta : Option Addr) (tc : Nat) (vs : List Vt) (w : World) (h : SegI w a k l) (hkc : k ≤ c) (hr : RowS w 2 ta vs.length (vs.map acs)) (hv : ∀ v ∈ vs, Vok w v) (h7 : vs.length ≤ 7) :
    Calls Try.prog 20 #[.agg #[.int .i64 seq, .slice a k c], .slice ta vs.length tc] w fun e w' => ∃ ua uc, e = .returned (.agg #[.int .i64 (uSeq seq vs), .slice ua (uDeps l vs).length uc]) ∧ w'.ownsRow w.heap.size 3 1 (.slice ua (uDeps l vs).length uc) (uDeps l vs).length ((uDeps l vs).map (Value.int .i64)) ∧ Below w.heap.size w w' := by
  obtain ⟨i0, hi, hz0, hz1, hz2⟩ := info_parts infoLQ
  have HS := hide h
  have HKC := hide hkc
  have HR := hide hr
  have HV := hide hv
  obtain ⟨N, hN⟩ : ∃ N, vs.length = N := ⟨_, rfl⟩
  have HN := hide hN
  rw [hN] at HR h7 ⊢
  clear h hr hv hN hkc
  go_enter Try.func20, Try.ntmps20
  go_upto_region 1 with fail
  go_region
  obtain ⟨W0, hW0⟩ : ∃ W0, W0 = (((w.alloc (.cells #[.int .i64 seq, .slice a k c] 24)).alloc (.cells #[.int .i64 0, .slice none 0 0] 24)).alloc (.cells #[.slice a k c] 22)).drew := ⟨_, rfl⟩
  have hs2 : ((w.alloc (.cells #[.int .i64 seq, .slice a k c] 24)).alloc (.cells #[.int .i64 0, .slice none 0 0] 24)).heap.size = w.heap.size + 1 + 1 := by simp
  have BW0 : Hid (Below w.heap.size w W0) := by rw [hW0]; exact ((((Below.refl _ w).alloc (Nat.le_refl _) _).alloc (by simp) _).alloc (by simp; omega) _).drew
  have ZW0 : Hid (Blk W0 (w.heap.size + 1) [.int .i64 0, .slice none 0 0]) := by
    have := blk_new (w.alloc (.cells #[.int .i64 seq, .slice a k c] 24)) 24 [.int .i64 0, .slice none 0 0]
    rw [World.size_alloc] at this
    rw [hW0]
    exact (this.on ((Below.refl _ _).alloc (Nat.le_refl _) _)).drewN 1
  have OW0 : Hid (W0.ownsRow (w.heap.size + 1 + 1) 22 1 (.slice (some ⟨w.heap.size + 1 + 1, 0, none⟩) 1 1) 1 [.slice a k c]) := by
    show World.ownsRow _ _ _ _ _ _ _
    rw [hW0]
    refine ⟨rfl, .inr ⟨w.heap.size + 1 + 1, 1, #[.slice a k c], rfl, Nat.le_refl _, ?_, Nat.le_refl _, by unfold maxLen; omega, rfl, rfl⟩⟩
    have := heap_alloc_new ((w.alloc (.cells #[.int .i64 seq, .slice a k c] 24)).alloc (.cells #[.int .i64 0, .slice none 0 0] 24)) (.cells #[.slice a k c] 22)
    rw [hs2] at this
    exact this
  have LW0 : Hid (w.heap.size + 1 + 1 < W0.heap.size) := by show _ < _; rw [hW0]; show _ < (World.heap _).size; simp [World.drew]
  rw [← hW0]
  clear hW0 hs2
  generalize hB : w.heap.size + 1 + 1 = B at *
  have HBE := hide hB
  have hwB : w.heap.size ≤ B := by omega
  clear hB
  go_wp2
  go_loopw [18, 5, 6] (fun i s x wr => ∃ q : Nat, i = .int .i64 (q : Int) ∧ q ≤ N ∧ s = .int .i64 (uSeq seq (vs.take q)) ∧ Hid (wr.ownsRow B 22 1 x (q + 1) (.slice a k c :: (vs.take q).map (fun v => .slice v.da v.dn v.dc))) ∧ Hid (Below B W0 wr)) (fun i _ _ _ => N - (intOf i).toNat)
  case atStart => exact ⟨0, rfl, Nat.zero_le _, rfl, OW0, Below.refl _ _⟩
  case round =>
    obtain ⟨q, rfl, hq, hx, HO, HB⟩ := hrel
    subst hx
    have hBr : B < wr.heap.size := by have := HB.out.size; have := LW0.out; omega
    by_cases hlt : q < N
    · obtain ⟨v, hkv⟩ : ∃ v, vs[q]? = some v := ⟨_, List.getElem?_eq_getElem (by have := HN.out; omega)⟩
      have HNX : Hid (vs.take (q + 1) = vs.take q ++ [v]) := by show _ = _; rw [List.take_add_one, hkv]; rfl
      obtain ⟨b, off, rfl, hat⟩ := (HR.out.below (BW0.out.trans (HB.out.mono hwB)) (Nat.le_refl _) (by decide)).at_ (by omega)
      have hrg : wr.rangeAt b (off + q * 2) (acs v) := hat q (acs v) (by rw [List.getElem?_map, hkv]; rfl)
      have c0 : wr.cell? ⟨b, off + q * 2, none⟩ = some (.int .i64 v.seq) := hrg 0 _ rfl
      have c1 : wr.cell? ⟨b, off + q * 2 + 1, none⟩ = some (.slice v.da v.dn v.dc) := hrg 1 _ rfl
      clear hat hkv hrg
      obtain ⟨X, hX⟩ : ∃ X, X = wr.alloc (.cells #[.int .i64 v.seq, .slice v.da v.dn v.dc] 24) := ⟨_, rfl⟩
      have QX : Hid (Blk X wr.heap.size [.int .i64 v.seq, .slice v.da v.dn v.dc]) := by rw [hX]; exact blk_new wr 24 [.int .i64 v.seq, .slice v.da v.dn v.dc]
      have e0 := QX.out.cell 0 _ rfl
      have e1 := QX.out.cell 1 _ rfl
      have hX1 : Hid (wr.heap.size < X.heap.size) := QX.out.lt
      have hXs := hX1.out
      have HO1 : Hid (X.ownsRow B 22 1 u6 (q + 1) (.slice a k c :: (vs.take q).map (fun v => .slice v.da v.dn v.dc))) := by
        show World.ownsRow _ _ _ _ _ _ _
        rw [hX]; exact HO.out.alloc _
      have BX : Hid (Below B W0 X) := by rw [hX]; exact HB.out.alloc (by omega) _
      have HNE : Hid (∀ g, u6.ownBlock = some g → B ≤ g ∧ g < wr.heap.size) := HO.out.lt
      have HK4 : Hid (∀ (w5 w4 : World), w5.grownBy w4 u6.ownBlock → ∀ (j : Nat) (u : Value), w5.cell? ⟨wr.heap.size, j, none⟩ = some u → w4.cell? ⟨wr.heap.size, j, none⟩ = some u) := fun w5 w4 hg j u hc => hg.cell hc (by intro e; have := (HNE.out _ e.symm).2; simp at this)
      have HX := hide hX
      clear hX QX
      obtain ⟨s0, HS0⟩ : ∃ s0, Hid (uSeq seq (vs.take q) = s0) := ⟨_, rfl⟩
      rw [HS0.out]
      go_upto_region 5 with fail
      rw [← HX.out]
      clear HX
      refine wp_region_held_drew (S := (fun W' => W'.cell? ⟨wr.heap.size, 0, none⟩ = some (.int .i64 v.seq) ∧ W'.cell? ⟨wr.heap.size, 1, none⟩ = some (.slice v.da v.dn v.dc))) (by kernel_rfl) ⟨e0, e1⟩ (fun hHeld => ?_)
      refine wpAnyH_take (i := 0) (v := ?_) rfl (by kernel_rfl) (by kernel_rfl) (by kernel_rfl) (fun _ _ _ h => h) (Or.inl ⟨by rfl, ?_⟩) (by assumption) ?_
      rotate_left
      · intro w hSw
        try dsimp only at hSw
        go_simp
        try with_reducible rfl
      try simp only [Act.put, List.getElem_toArray, List.getElem_cons_zero, List.setIfInBounds_toArray, List.set_cons_zero, List.set_cons_succ]
      refine wpAnyH_take (i := 1) (v := ?_) rfl (by kernel_rfl) (by kernel_rfl) (by kernel_rfl) (fun _ _ _ h => h) (Or.inl ⟨by rfl, ?_⟩) (by assumption) ?_
      rotate_left
      · intro w hSw
        try dsimp only at hSw
        go_simp
        try with_reducible rfl
      try simp only [Act.put, List.getElem_toArray, List.getElem_cons_succ, List.getElem_cons_zero, List.setIfInBounds_toArray, List.set_cons_zero, List.set_cons_succ]
      refine wpAnyH_take (i := 2) (v := ?_) rfl (by kernel_rfl) (by kernel_rfl) (by kernel_rfl) (fun _ _ _ h => h) (Or.inl ⟨by rfl, ?_⟩) (by assumption) ?_
      rotate_left
      · intro w hSw
        try dsimp only at hSw
        have s0 := hSw.1
        go_simp
        try with_reducible rfl
      try simp only [Act.put, List.getElem_toArray, List.getElem_cons_succ, List.getElem_cons_zero, List.setIfInBounds_toArray, List.set_cons_zero, List.set_cons_succ]
      refine wpAnyH_take (i := 3) (v := ?_) rfl (by kernel_rfl) (by kernel_rfl) (by kernel_rfl) (fun _ _ _ h => h) (Or.inl ⟨by rfl, ?_⟩) (by assumption) ?_
      rotate_left
      · intro w hSw
        try dsimp only at hSw
        go_simp
        try with_reducible rfl
      try simp only [Act.put, List.getElem_toArray, List.getElem_cons_succ, List.getElem_cons_zero, List.setIfInBounds_toArray, List.set_cons_zero, List.set_cons_succ]
      refine wpAnyH_take (i := 4) (v := ?_) rfl (by kernel_rfl) (by kernel_rfl) (by kernel_rfl) (fun _ _ _ h => h) (Or.inl ⟨by rfl, ?_⟩) (by assumption) ?_
      rotate_left
      · intro w hSw
        try dsimp only at hSw
        go_simp
        try with_reducible rfl
      try simp only [Act.put, List.getElem_toArray, List.getElem_cons_succ, List.getElem_cons_zero, List.setIfInBounds_toArray, List.set_cons_zero, List.set_cons_succ]
      refine wpAnyH_take (i := 5) (v := ?_) rfl (by kernel_rfl) (by kernel_rfl) (by kernel_rfl) (fun _ _ _ h => h) (Or.inl ⟨by rfl, ?_⟩) (by assumption) ?_
      rotate_left
      · intro w hSw
        try dsimp only at hSw
        go_simp
        try with_reducible rfl
      try simp only [Act.put, List.getElem_toArray, List.getElem_cons_succ, List.getElem_cons_zero, List.setIfInBounds_toArray, List.set_cons_zero, List.set_cons_succ]
      refine wpAnyH_take (i := 6) (v := ?_) rfl (by kernel_rfl) (by kernel_rfl) (by kernel_rfl) (fun _ _ _ h => h) (Or.inl ⟨by rfl, ?_⟩) (by assumption) ?_
      rotate_left
      · intro w hSw
        try dsimp only at hSw
        have s1 := hSw.2
        go_simp
        try with_reducible rfl
      try simp only [Act.put, List.getElem_toArray, List.getElem_cons_succ, List.getElem_cons_zero, List.setIfInBounds_toArray, List.set_cons_zero, List.set_cons_succ]
      refine wpAnyH_ready (rs := [7]) (by kernel_rfl) (by simp) ?_
      refine AllReadyH.cons rfl (fun K hK => ?_) AllReadyH.nil
      rw [if_pos (by rfl)]
      go_wp2_with fail
      refine hK.out _ _ ⟨Lib.cell?_alloc_some (W := X) _ e0, Lib.cell?_alloc_some (W := X) _ e1⟩ (fun hHeld => ?_)
      clear hK K
      try simp only [Act.put, List.getElem_toArray, List.getElem_cons_succ, List.getElem_cons_zero, List.setIfInBounds_toArray, List.set_cons_zero, List.set_cons_succ]
      refine wpAnyH_ready (rs := [8]) (by kernel_rfl) (by simp) ?_
      refine AllReadyH.cons rfl (fun K hK => ?_) AllReadyH.nil
      rw [if_pos (by rfl)]
      refine wp_append_own_at rfl _ _ 86 rfl B 22 i0 (.slice none 0 0) 1 24 Try.underlying86 hi hz0 hz1 hz2 rfl (by decide) u6 _ _ rfl (World.ownsRow.alloc HO1.out _) ⟨X.heap.size, 0, none⟩ 1 1 [.slice v.da v.dn v.dc] rfl rfl (cell_one_new X _ _) (by intro u hu; simp only [List.mem_singleton] at hu; subst hu; rfl) (by unfold maxLen; omega) (by omega) (by simp; omega) ?_
      intro v' w4 hown4 hgrow4 hnil4 hloc4
      have HO4 := hide hown4
      have HG4 := hide hgrow4
      clear hown4 hgrow4 hnil4 hloc4
      refine hK.out _ _ ⟨HK4.out _ _ HG4.out _ _ hHeld.1, HK4.out _ _ HG4.out _ _ hHeld.2⟩ (fun hHeld => ?_)
      clear hK K
      try simp only [Act.put, List.getElem_toArray, List.getElem_cons_succ, List.getElem_cons_zero, List.setIfInBounds_toArray, List.set_cons_zero, List.set_cons_succ]
      refine wpAnyH_take (i := 9) (v := ?_) rfl (by kernel_rfl) (by kernel_rfl) (by kernel_rfl) (fun _ _ _ h => h) (Or.inl ⟨by rfl, ?_⟩) (by assumption) ?_
      rotate_left
      · intro w hSw
        try dsimp only at hSw
        go_simp
        try with_reducible rfl
      try simp only [Act.put, List.getElem_toArray, List.getElem_cons_succ, List.getElem_cons_zero, List.setIfInBounds_toArray, List.set_cons_zero, List.set_cons_succ]
      refine wpAnyH_take (i := 10) (v := ?_) rfl (by kernel_rfl) (by kernel_rfl) (by kernel_rfl) (fun _ _ _ h => h) (Or.inl ⟨by rfl, ?_⟩) (by assumption) ?_
      rotate_left
      · intro w hSw
        try dsimp only at hSw
        go_simp
        try with_reducible rfl
      try simp only [Act.put, List.getElem_toArray, List.getElem_cons_succ, List.getElem_cons_zero, List.setIfInBounds_toArray, List.set_cons_zero, List.set_cons_succ]
      refine wpAnyH_done (by kernel_rfl) ?_ _
      have HO5 : Hid (w4.ownsRow B 22 1 v' (q + 1 + 1) (.slice a k c :: (vs.take (q + 1)).map (fun v => .slice v.da v.dn v.dc))) := by
        show World.ownsRow _ _ _ _ _ _ _
        have := HO4.out
        rw [HNX.out, List.map_append]
        exact this
      have HB5 : Hid (Below B W0 w4) := (BX.out.alloc (by omega) _).drew.grown HG4.out (by simp; omega) (fun j hj => (HNE.out j hj).1)
      go_wp2
      go_roundw
      case rel => exact ⟨q + 1, by go_num, by omega, by rw [HNX.out, uSeq_snoc, HS0.out], HO5, HB5⟩
      case measure => simp [intOf]; omega
    · have HX : Hid (vs.take q = vs) := List.take_of_length_le (by have := HN.out; omega)
      have HOE : Hid (wr.ownsRow B 22 1 u6 (N + 1) (.slice a k c :: vs.map (fun v => .slice v.da v.dn v.dc))) := by
        have := HO.out
        rw [HX.out] at this
        obtain rfl : q = N := by omega
        exact this
      obtain ⟨g, cap, rfl, hcap, hcell⟩ : ∃ g cap, u6 = .slice (some ⟨g, 0, none⟩) (N + 1) cap ∧ N + 1 ≤ cap ∧ ∀ i u, (Value.slice a k c :: vs.map (fun v => .slice v.da v.dn v.dc))[i]? = some u → wr.cell? ⟨g, i, none⟩ = some u := by
        rcases HOE.out.2 with ⟨_, e⟩ | ⟨g, cap, cur, e, hB, hh, h3, h4, h5, h6⟩
        · omega
        · refine ⟨g, cap, e, h3, fun i u hi => ?_⟩
          have := World.ownsRow.cells HOE.out (g := g) (by rw [e]; rfl) i u hi
          rwa [Addr.add_mid, Nat.zero_add] at this
      have BWR : Hid (Below w.heap.size w wr) := BW0.out.trans (HB.out.mono hwB)
      have HSL : Hid (SegL wr (some ⟨g, 0, none⟩) (N + 1) (⟨a, k, c, l⟩ :: vs.map liOf)) := by
        refine ⟨by simp [HN.out], by unfold maxLen; omega, fun _ => ⟨g, 0, rfl, fun i hi => ?_⟩, fun i hi => ?_⟩
        · rw [Nat.zero_add]
          refine hcell i _ ?_
          cases i with
          | zero => rfl
          | succ i =>
            have hi' : i < vs.length := by have := HN.out; omega
            simp [List.getElem?_eq_getElem hi', liOf]
        · cases i with
          | zero => exact HS.out.below BWR.out (Nat.le_refl _)
          | succ i =>
            have hi' : i < vs.length := by have := HN.out; omega
            have : SegI wr (vs[i]).da (vs[i]).dn (vs[i]).deps := (HV.out _ (List.getElem_mem hi')).seg.below BWR.out (Nat.le_refl _)
            simpa [List.getElem?_eq_getElem hi', liOf] using this
      have HLS : Hid (lsOf (⟨a, k, c, l⟩ :: vs.map liOf) = l :: vs.map (·.deps)) := by show _ = _; simp [lsOf, liOf, Function.comp_def]
      have HSE : Hid (uSeq seq (vs.take q) = uSeq seq vs) := by show _ = _; rw [HX.out]
      rw [HSE.out]
      have HZR := hide (ZW0.out.below HB.out (by have := HBE.out; omega))
      have hcap' := hide hcap
      clear hcell hcap HO HOE HX HSE
      go_wp2_with fail
      refine (union_any _ _ _ _ _ HSL.out hcap'.out).mono ?_
      rintro e w5 ⟨v, rfl, ho5, hb5⟩
      rw [HLS.out] at ho5 ⊢
      have HO5 := hide ho5
      have B5 : Hid (Below w.heap.size w w5) := BWR.out.trans (hb5.mono BWR.out.size)
      have Z5 : Hid (Blk w5 (w.heap.size + 1) [.int .i64 0, .slice none 0 0]) := HZR.out.on hb5
      obtain ⟨ua, uc, rfl⟩ := own_shape ho5
      have z0 := Z5.out.cell 0 _ rfl
      have z1 := Z5.out.cell 1 _ rfl
      have f0 := Z5.out.thaw 0
      have f1 := Z5.out.thaw 1
      have hws := HBE.out
      have hwr := BWR.out.size
      clear ho5 hb5
      generalize (unionE (l :: vs.map (·.deps)) : Int) = er
      have HF : Hid (Blk ((w5.setCell ⟨w.heap.size + 1, 0, none⟩ (.int .i64 (uSeq seq vs))).setCell ⟨w.heap.size + 1, 1, none⟩ (.slice ua (uDeps l vs).length uc)) (w.heap.size + 1) [.int .i64 (uSeq seq vs), .slice ua (uDeps l vs).length uc]) := (Z5.out.setAt 0 _).setAt 1 _
      have HOF : Hid (((w5.setCell ⟨w.heap.size + 1, 0, none⟩ (.int .i64 (uSeq seq vs))).setCell ⟨w.heap.size + 1, 1, none⟩ (.slice ua (uDeps l vs).length uc)).ownsRow w.heap.size 3 1 (.slice ua (uDeps l vs).length uc) (uDeps l vs).length ((uDeps l vs).map (Value.int .i64))) := by
        have h1 := World.ownsRow.kept (row := some (w.heap.size + 1)) (w' := (w5.setCell ⟨w.heap.size + 1, 0, none⟩ (.int .i64 (uSeq seq vs))).setCell ⟨w.heap.size + 1, 1, none⟩ (.slice ua (uDeps l vs).length uc)) HO5.out ((grown_set _ _ _ _).trans (grown_set _ _ _ _)) (by
          rcases HO5.out.2 with ⟨e, _⟩ | ⟨g', cap', cur, e, hB', _⟩
          · rw [e]; exact .inl rfl
          · rw [e]; refine .inr ?_; intro e2; simp only [Value.ownBlock, Option.some.injEq] at e2; omega)
        exact own_base h1 (by omega)
      have BF : Hid (Below w.heap.size w ((w5.setCell ⟨w.heap.size + 1, 0, none⟩ (.int .i64 (uSeq seq vs))).setCell ⟨w.heap.size + 1, 1, none⟩ (.slice ua (uDeps l vs).length uc))) := below_store (below_store B5.out (by omega) _) (by omega) _
      have c0 := HF.out.cell 0 _ rfl
      have c1 := HF.out.cell 1 _ rfl
      go_wp2
      refine bodyPost_ret (results_cell_mid Try.results20 _ _ (w.heap.size + 1) [.int .i64 (uSeq seq vs), .slice ua (uDeps l vs).length uc] _ rfl HF.out.range Try.underlying24 rfl (by kernel_rfl)) rfl ⟨ua, uc, rfl, HOF.out, BF.out⟩
end Go.Proofs.Ytmplipkdaplpnaa
