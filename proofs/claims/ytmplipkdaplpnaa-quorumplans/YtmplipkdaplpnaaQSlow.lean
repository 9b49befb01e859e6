/- The contracts of Fast and Slow. -/
import Derived.Test.YtmplipkdaplpnaaQUni
import Derived.Test.YtmplipkdaplpnaaQGatA
namespace Go.Proofs.Ytmplipkdaplpnaa
open Go.RowKit Go.Wire1

theorem qresults_tmp_cell {P : Program} {fn : Func} {p q : Tmp} {ty : TypeId} (h : fn.results = #[.tmp q, .cell p ty]) (tmps : Array Value) (w : World) (b : Nat) (cs : List Value) (d : TypeDesc) (x : Value) (ht : tmps[p]?.getD undef = .pointer (some ⟨b, 0, none⟩)) (hq : tmps[q]?.getD undef = x)
    (hc : w.rangeAt b 0 cs) (hu : P.underlying ty = some d) (hd : d.isRow = true) (hi : (P.info? ty).map (·.size) = some cs.length) : (results fn tmps).run P w = .ok (.tuple #[x, .agg cs.toArray]) w := by
  have hl := run_loadVar_mid (P := P) w b 0 ty cs d hc hu hd hi
  simp [results, h, ht, asAddr, hl, hq]
theorem ansQ_mapV {α β : Type} (f : α → β) (m : List (Int × α)) : ansQ (mapV f m) = (ansQ m).map f := by
  unfold ansQ
  rw [List.map_filterMap]
  congr 1
  funext i
  rw [lkm_mapV]
/-- Those that count in Fast and Slow, by rising ids. -/
def toldA (n slf : Int) (vs : List Vt) : List Vt := ansQ (tal (fun v => sndQ n v.seq v.deps) n slf vs)
theorem tal_sub {ok : Vt → Bool} {n slf : Int} {vs : List Vt} : ∀ p ∈ tal ok n slf vs, p.2 ∈ vs ∧ ok p.2 = true ∧ p.1 = p.2.fr := by
  unfold tal
  have key : ∀ (l : List Vt) (m : List (Int × Vt)), (∀ v ∈ l, v ∈ vs) → (∀ p ∈ m, p.2 ∈ vs ∧ ok p.2 = true ∧ p.1 = p.2.fr) → ∀ p ∈ l.foldl (fun m v => if ok v then addM n slf m v.fr v else m) m, p.2 ∈ vs ∧ ok p.2 = true ∧ p.1 = p.2.fr := by
    intro l
    induction l with
    | nil => intro m _ hm p hp; exact hm p hp
    | cons v r ih =>
      intro m hl hm
      refine ih _ (fun u hu => hl u (List.mem_cons_of_mem _ hu)) ?_
      intro p hp
      dsimp only at hp
      by_cases h : ok v = true
      · rw [if_pos h] at hp
        unfold addM at hp
        split at hp
        · rcases List.mem_append.1 hp with hp | hp
          · exact hm p hp
          · simp only [List.mem_singleton] at hp
            subst hp
            exact ⟨hl v (List.mem_cons_self ..), h, rfl⟩
        · exact hm p hp
      · rw [if_neg h] at hp
        exact hm p hp
  exact key vs [] (fun v hv => hv) (fun p hp => by cases hp)
theorem ansQ_mem {α : Type} {m : List (Int × α)} {v : α} (h : v ∈ ansQ m) : ∃ k, (k, v) ∈ m := by
  unfold ansQ at h
  obtain ⟨i, _, hl⟩ := List.mem_filterMap.1 h
  exact ⟨_, lkm_some hl⟩
theorem toldA_mem {n slf : Int} {vs : List Vt} {v : Vt} (h : v ∈ toldA n slf vs) : v ∈ vs := by
  obtain ⟨k, hk⟩ := ansQ_mem h
  exact (tal_sub _ hk).1
theorem ansQ_le {α : Type} (m : List (Int × α)) : (ansQ m).length ≤ 7 := by
  unfold ansQ
  exact Nat.le_trans (List.length_filterMap_le _ _) (by simp)
theorem sz_le {n : Int} (h : szQ n = true) : n ≤ 7 := by
  unfold szQ at h
  simp only [Bool.or_eq_true, beq_iff_eq] at h
  omega
theorem lead_sz {n slf seq : Int} {l : List Int} (h : leadQ n slf seq l = true) : szQ n = true ∧ repQ n slf = true ∧ sndQ n seq l = true := by
  unfold leadQ at h
  simpa only [Bool.and_eq_true] using h
theorem snd_len {n seq : Int} {l : List Int} (h : sndQ n seq l = true) : 0 < l.length ∧ l.length ≤ 7 := by
  unfold sndQ isVec okW at h
  simp only [Bool.and_eq_true, decide_eq_true_eq] at h
  omega
/-- What Slow and Fast tell: a number, a Seq, Deps. -/
def slowQ (n slf seq : Int) (l : List Int) (vs : List Vt) : Int × Int × List Int :=
  if leadQ n slf seq l then (if ((toldA n slf vs).length : Int) < (n - 1) / 2 then (0, 0, []) else (2, uSeq seq (toldA n slf vs), uDeps l (toldA n slf vs))) else (0, 0, [])
def fastQ (n slf seq : Int) (l : List Int) (vs : List Vt) : Int × Int × List Int :=
  if leadQ n slf seq l then
    (if 2 * ((n - 1) / 2) - 1 ≤ (cntQ seq l (toldA n slf vs) : Int) then (1, seq, l)
     else if (n - 1) / 2 ≤ ((toldA n slf vs).length : Int) ∧ 2 ≤ ((toldA n slf vs).length : Int) - (cntQ seq l (toldA n slf vs) : Int) then (2, uSeq seq (toldA n slf vs), uDeps l (toldA n slf vs)) else (0, 0, []))
  else (0, 0, [])
/-- The answer in memory. -/
def AnsP (w : World) (r : Int × Int × List Int) (e : Ending) (w' : World) : Prop :=
  ∃ ua uc, e = .returned (.tuple #[.int .i64 r.1, .agg #[.int .i64 r.2.1, .slice ua r.2.2.length uc]]) ∧ w'.ownsRow w.heap.size 3 1 (.slice ua r.2.2.length uc) r.2.2.length (r.2.2.map (Value.int .i64)) ∧ Below w.heap.size w w'
theorem ansP_zero {w w' : World} (hb : Below w.heap.size w w') : AnsP w (0, 0, []) (.returned (.tuple #[.int .i64 0, .agg #[.int .i64 0, .slice none 0 0]])) w' := ⟨none, 0, rfl, World.ownsRow_nil _ _ _ _, hb⟩
theorem box2_set {w : World} {g : Nat} {x y u v : Value} (h : Blk w g [x, y]) : Blk ((w.setCell ⟨g, 0, none⟩ u).setCell ⟨g, 1, none⟩ v) g [u, v] := (h.setAt 0 u).setAt 1 v
set_option maxHeartbeats 4000000 in
set_option maxRecDepth 100000 in
theorem slow_any (n slf seq : Int) (a : Option Addr) (k c : Nat) (l : List Int) (va : Option Addr) (vc : Nat) (vs : List Vt) (w : World) (h : SegI w a k l) (hkc : k ≤ c) (hr : RowS w 15 va vs.length (vs.map vcs)) (hv : ∀ v ∈ vs, Vok w v) :
    Calls Try.prog 6 #[.int .i64 n, .int .i64 slf, .agg #[.int .i64 seq, .slice a k c], .slice va vs.length vc] w fun e w' => AnsP w (slowQ n slf seq l vs) e w' := by
  obtain ⟨U, hU⟩ : ∃ U, U = (w.alloc (.cells #[.int .i64 seq, .slice a k c] 24)).alloc (.cells #[.int .i64 0, .slice none 0 0] 24) := ⟨_, rfl⟩
  have BU : Hid (Below w.heap.size w U) := by rw [hU]; exact ((Below.refl _ w).alloc (Nat.le_refl _) _).alloc (by simp) _
  have QU : Hid (Blk U w.heap.size [.int .i64 seq, .slice a k c]) := by rw [hU]; exact (blk_new w 24 [.int .i64 seq, .slice a k c]).on ((Below.refl _ _).alloc (Nat.le_refl _) _)
  have ZU : Hid (Blk U (w.heap.size + 1) [.int .i64 0, .slice none 0 0]) := by
    have := blk_new (w.alloc (.cells #[.int .i64 seq, .slice a k c] 24)) 24 [.int .i64 0, .slice none 0 0]
    rw [World.size_alloc] at this
    rw [hU]; exact this
  have HS := hide h
  have HKC := hide hkc
  have HR := hide hr
  have HV := hide hv
  have o0 := QU.out.cell 0 _ rfl
  have o1 := QU.out.cell 1 _ rfl
  clear h hkc hr hv
  have W0 : Hid (World.heap w = w.heap) := rfl
  go_enter Try.func6, Try.ntmps6
  go_upto_region 1 with fail
  rw [← hU]
  clear hU
  go_wp2_with fail
  refine (qlead_any n slf seq a k c l _ (HS.out.below BU.out (Nat.le_refl _))).mono ?_
  rintro e w1 ⟨rfl, hb1⟩
  have B1 : Hid (Below w.heap.size w w1) := BU.out.trans (hb1.mono BU.out.size)
  have Q1 : Hid (Blk w1 w.heap.size [.int .i64 seq, .slice a k c]) := QU.out.on hb1
  have Z1 : Hid (Blk w1 (w.heap.size + 1) [.int .i64 0, .slice none 0 0]) := ZU.out.on hb1
  clear hb1 BU QU ZU o0 o1 W0
  cases hl : leadQ n slf seq l with
  | false =>
    have HQ : Hid (slowQ n slf seq l vs = (0, 0, [])) := by show _ = _; unfold slowQ; rw [hl]; rfl
    have z0 := Z1.out.cell 0 _ rfl
    have z1 := Z1.out.cell 1 _ rfl
    have f0 := Z1.out.thaw 0
    have f1 := Z1.out.thaw 1
    have hws := Z1.out.lt
    clear hl
    go_wp2
    rw [HQ.out]
    refine bodyPost_ret (qresults_tmp_cell Try.results6 _ _ (w.heap.size + 1) [.int .i64 0, .slice none 0 0] _ _ rfl rfl (box2_set Z1.out).range Try.underlying24 rfl (by kernel_rfl)) rfl (ansP_zero (below_store (below_store B1.out (by omega) _) (by omega) _))
  | true =>
    obtain ⟨hsz, hrp, hsn⟩ := lead_sz hl
    have HL := hide hl
    have HSZ := hide hsz
    have HSN := hide hsn
    have hn7 := sz_le hsz
    clear hl hsz hrp hsn
    go_wp2_with fail
    refine (gatA_any n slf va vc vs w1 hn7 (HR.out.below B1.out (Nat.le_refl _) (by decide)) (fun v hv => (HV.out v hv).below B1.out (Nat.le_refl _))).mono ?_
    rintro e w2 ⟨rfl, ht2, hb2⟩
    have HT2 := hide ht2
    have Q2 : Hid (Blk w2 w.heap.size [.int .i64 seq, .slice a k c]) := Q1.out.on hb2
    have Z2 : Hid (Blk w2 (w.heap.size + 1) [.int .i64 0, .slice none 0 0]) := Z1.out.on hb2
    have B2 : Hid (Below w.heap.size w w2) := B1.out.trans (hb2.mono B1.out.size)
    clear ht2 hb2 Q1 Z1 B1
    go_wp2_with fail
    refine (ansA_any HT2.out).mono ?_
    rintro e w3 ⟨ta, tc, rfl, htc, hrow, hb3⟩
    have hans : ansQ (talA n slf vs) = (toldA n slf vs).map acs := by unfold talA toldA; exact ansQ_mapV _ _
    rw [hans, List.length_map] at hrow htc ⊢
    have HTR := hide hrow
    have Q3 : Hid (Blk w3 w.heap.size [.int .i64 seq, .slice a k c]) := Q2.out.on hb3
    have Z3 : Hid (Blk w3 (w.heap.size + 1) [.int .i64 0, .slice none 0 0]) := Z2.out.on hb3
    have B3 : Hid (Below w.heap.size w w3) := B2.out.trans (hb3.mono B2.out.size)
    have HTV : Hid (∀ v ∈ toldA n slf vs, Vok w3 v) := fun v hv => (HV.out v (toldA_mem hv)).below B3.out (Nat.le_refl _)
    have HT7 : Hid ((toldA n slf vs).length ≤ 7) := ansQ_le _
    have HS3 : Hid (SegI w3 a k l) := HS.out.below B3.out (Nat.le_refl _)
    clear hrow htc hb3 hans Q2 Z2 B2 HT2 HV HR HS
    obtain ⟨told, htold⟩ : ∃ t, toldA n slf vs = t := ⟨_, rfl⟩
    have HTD := hide htold
    rw [htold] at HTR HTV HT7 ⊢
    clear htold
    have h7 := HT7.out
    have o0 := Q3.out.cell 0 _ rfl
    have o1 := Q3.out.cell 1 _ rfl
    have hws := Z3.out.lt
    have HSP : Hid (∀ W : World, Calls Try.prog 19 #[.int .i64 n] W fun e w' => e = .returned (.int .i64 ((n - 1) / 2)) ∧ W = w') := fun W => qspared_any n HSZ.out W
    obtain ⟨f, hf⟩ : ∃ f, Hid ((n - 1) / 2 = f) := ⟨_, rfl⟩
    by_cases hlt : (told.length : Int) < f
    · have HQ : Hid (slowQ n slf seq l vs = (0, 0, [])) := by show _ = _; unfold slowQ; rw [HL.out, if_pos rfl, HTD.out, hf.out, if_pos hlt]
      go_wp2_with fail
      refine (HSP.out _).mono ?_
      rintro e w' ⟨rfl, rfl⟩
      rw [hf.out]
      have z0 := Z3.out.cell 0 _ rfl
      have z1 := Z3.out.cell 1 _ rfl
      have f0 := Z3.out.thaw 0
      have f1 := Z3.out.thaw 1
      go_wp2
      rw [HQ.out]
      refine bodyPost_ret (qresults_tmp_cell Try.results6 _ _ (w.heap.size + 1) [.int .i64 0, .slice none 0 0] _ _ rfl rfl (box2_set Z3.out).range Try.underlying24 rfl (by kernel_rfl)) rfl (ansP_zero (below_store (below_store B3.out (by omega) _) (by omega) _))
    · have HQ : Hid (slowQ n slf seq l vs = (2, uSeq seq told, uDeps l told)) := by show _ = _; unfold slowQ; rw [HL.out, if_pos rfl, HTD.out, hf.out, if_neg hlt]
      go_wp2_with fail
      refine (HSP.out _).mono ?_
      rintro e w' ⟨rfl, rfl⟩
      rw [hf.out]
      go_wp2_with fail
      refine (quni_any seq a k c l ta tc told _ HS3.out HKC.out HTR.out HTV.out h7).mono ?_
      rintro e w5 ⟨ua, uc, rfl, ho5, hb5⟩
      have HO5 := hide ho5
      have B5 : Hid (Below w.heap.size w w5) := B3.out.trans (hb5.mono B3.out.size)
      have Z5 : Hid (Blk w5 (w.heap.size + 1) [.int .i64 0, .slice none 0 0]) := Z3.out.on hb5
      have hs5 := hb5.size
      clear ho5 hb5
      have z0 := Z5.out.cell 0 _ rfl
      have z1 := Z5.out.cell 1 _ rfl
      have f0 := Z5.out.thaw 0
      have f1 := Z5.out.thaw 1
      go_wp2
      rw [HQ.out]
      refine bodyPost_ret (qresults_tmp_cell Try.results6 _ _ (w.heap.size + 1) [.int .i64 (uSeq seq told), .slice ua (uDeps l told).length uc] _ _ rfl rfl (box2_set Z5.out).range Try.underlying24 rfl (by kernel_rfl)) rfl ⟨ua, uc, rfl, ?_, below_store (below_store B5.out (by omega) _) (by omega) _⟩
      have h1 := World.ownsRow.kept (row := some (w.heap.size + 1)) (w' := (w5.setCell ⟨w.heap.size + 1, 0, none⟩ (.int .i64 (uSeq seq told))).setCell ⟨w.heap.size + 1, 1, none⟩ (.slice ua (uDeps l told).length uc)) HO5.out ((grown_set _ _ _ _).trans (grown_set _ _ _ _)) (by
        rcases HO5.out.2 with ⟨e, _⟩ | ⟨g', cap', cur, e, hB', _⟩
        · rw [e]; exact .inl rfl
        · rw [e]; refine .inr ?_; intro e2; simp only [Value.ownBlock, Option.some.injEq] at e2; omega)
      exact own_base h1 (by omega)
end Go.Proofs.Ytmplipkdaplpnaa
