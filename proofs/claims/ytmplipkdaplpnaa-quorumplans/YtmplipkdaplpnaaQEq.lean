/- The library's Equal and Clone of ints; who may lead; how many attributes are equal to one's own. -/
import Derived.Test.YtmplipkdaplpnaaQTal
import Derived.Test.YtmplipkdaplpnaaVLit
import Derived.Deep.Cut
import Derived.OwnWalk
import Derived.Lib.SliceRun
import Derived.Maps.AppendAt
namespace Go.Proofs.Ytmplipkdaplpnaa
open Go.RowKit Go.Wire1

set_option maxHeartbeats 1000000 in
set_option maxRecDepth 100000 in
theorem equalI_any (a b : Option Addr) (n m cap cap' : Nat) (xs ys : List Int) (w : World) (ha : SegI w a n xs) (hb : SegI w b m ys) :
    Calls Try.prog 64 #[.slice a n cap, .slice b m cap'] w fun e w' => e = .returned (.bool (sameB xs ys)) ∧ ∃ q, w' = w.drewN q := by
  obtain ⟨hn, hn', ha, -⟩ := ha
  obtain ⟨hm, hm', hb, -⟩ := hb
  unfold maxLen at hn' hm'
  by_cases hnm : n = m
  · subst hnm
    have HN : Hid (xs.length = n) := hn
    have HM : Hid (ys.length = n) := hm
    clear hn hm
    go_enter Try.func64, Try.ntmps64
    go_wp2
    go_loopw [13] (fun i wr => ∃ k q : Nat, i = .int .i64 (k : Int) ∧ k ≤ n ∧ Hid (xs.take k = ys.take k) ∧ wr = w.drewN q) (fun i _ => n - (intOf i).toNat)
    case atStart => exact ⟨0, 0, rfl, Nat.zero_le _, rfl, rfl⟩
    case round =>
      obtain ⟨k, q, rfl, hk, HT, rfl⟩ := hrel
      by_cases hlt : k < n
      · obtain ⟨ba, oa, rfl, hca⟩ := ha (by omega)
        obtain ⟨bb, ob, rfl, hcb⟩ := hb (by omega)
        have ca : w.cell? ⟨ba, oa + k, none⟩ = some (.int .i64 (xs.getD k 0)) := hca k hlt
        have cb : w.cell? ⟨bb, ob + k, none⟩ = some (.int .i64 (ys.getD k 0)) := hcb k hlt
        clear ha hb hca hcb
        by_cases he : xs.getD k 0 = ys.getD k 0
        · have HT' : Hid (xs.take (k + 1) = ys.take (k + 1)) := take_step (by have := HN.out; omega) (by have := HM.out; omega) HT.out he
          rw [← he] at cb
          clear he
          generalize xs.getD k 0 = c at ca cb
          go_wp2
          go_quiet (fail)
          go_wp2
          go_roundw
          case rel => exact ⟨k + 1, _, by go_num, by omega, HT', rfl⟩
          case measure => simp [intOf]; omega
        · have HS : Hid (sameB xs ys = false) := same_no he
          have hb' : (xs.getD k 0 != ys.getD k 0) = true := by simpa using he
          clear he
          generalize xs.getD k 0 = c at ca hb'
          generalize ys.getD k 0 = d at cb hb'
          go_wp2
          go_quiet (fail)
          go_wp2
          go_ret
          exact ⟨by rw [HS.out]; rfl, _, by rw [World.drewN_drewN]⟩
      · have HS : Hid (sameB xs ys = true) := same_yes (by have := HT.out; rwa [List.take_of_length_le (by have := HN.out; omega), List.take_of_length_le (by have := HM.out; omega)] at this)
        go_wp2
        go_ret
        exact ⟨by rw [HS.out]; rfl, _, rfl⟩
  · have HS : Hid (sameB xs ys = false) := same_len (by omega)
    have hne : ((n : Int) != (m : Int)) = true := by rw [bne_iff_ne]; omega
    go_enter Try.func64, Try.ntmps64
    go_wp2
    go_ret
    exact ⟨by rw [HS.out]; rfl, 0, rfl⟩
set_option maxHeartbeats 1000000 in
set_option maxRecDepth 100000 in
theorem cloneI_any (a : Option Addr) (n cap : Nat) (l : List Int) (w : World) (h : SegI w a n l) (hn : 0 < n) (h7 : n ≤ 7) :
    Calls Try.prog 44 #[.slice a n cap] w fun e w' => ∃ a' c', e = .returned (.slice a' n c') ∧ w'.ownsRow w.heap.size 3 1 (.slice a' n c') n (l.map (Value.int .i64)) ∧ Below w.heap.size w w' := by
  obtain ⟨i0, hi, hz0, hz1, hz2⟩ := info_parts Try.info3
  obtain ⟨b, off, rfl, hc⟩ := h.2.2.1 hn
  have HL : Hid (l.length = n) := h.1
  have HC : Hid (∀ W : World, Below w.heap.size w W → ∀ j u, (l.map (Value.int .i64))[j]? = some u → W.cell? ((⟨b, off, none⟩ : Addr).add j) = some u) := fun W hW j u hj => by
    rw [List.getElem?_map] at hj
    have hjl : j < l.length := by
      rcases Nat.lt_or_ge j l.length with h | h
      · exact h
      · rw [List.getElem?_eq_none h] at hj; cases hj
    have hjl' : j < n := by have := h.1; omega
    have h1 := hc j hjl'
    rw [List.getElem?_eq_getElem hjl] at hj
    simp only [Option.map_some, Option.some.injEq] at hj
    subst hj
    rw [Addr.add_mid, hW.cell (p := ⟨b, off + j, none⟩) (cell_lt h1), h1, List.getD, List.getElem?_eq_getElem hjl]
    rfl
  have hl := h.1
  clear hc h
  have qn : ∀ (w : World) (a : Option Addr) (n c n' c' : Nat), (binOp .eql 22 (.slice a n c) (.slice none n' c')).run Try.prog w = .ok (.bool a.isNone) w := fun w a n c n' c' => Lib.run_eql_slice_nil w _ _ a n c n' c' Try.underlying22
  go_enter Try.func44, Try.ntmps44
  go_wp2_with (first | (at_builtin; refine wpList_append_own_at _ rfl _ _ 22 rfl w.heap.size 3 i0 (.int .i64 0) 1 8 Try.underlying22 hi hz0 hz1 hz2 rfl (by decide) (.slice (some ⟨w.heap.size, 0, none⟩) 0 0) 0 [] rfl (World.ownsRow_made w #[] 0 (Nat.le_refl _) (by unfold maxLen; omega) rfl) ⟨b, off, none⟩ n cap (l.map (Value.int .i64)) rfl (by simp [hl]) (HC.out _ ((Below.refl _ _).alloc (Nat.le_refl _) _)) (ints_oneCell .i64 l) (by unfold maxLen; omega) (by omega) (by simp) ?_; intro v' w4 hown4 hgrow4 hnil4 hloc4))
  have HB : Hid (Below w.heap.size w w4) := ((Below.refl _ w).alloc (Nat.le_refl _) _).grown hgrow4 (by simp) (fun j hj => by simp [Value.ownBlock] at hj; omega)
  have HO := hide hown4
  clear hown4 hgrow4 hnil4 hloc4
  go_ret
  have ho := HO.out
  rw [Nat.zero_add, List.nil_append] at ho
  obtain ⟨a', c', rfl⟩ := own_shape ho
  exact ⟨a', c', rfl, ho, HB.out⟩

def leadQ (n slf seq : Int) (l : List Int) : Bool := szQ n && (repQ n slf && sndQ n seq l)
set_option maxHeartbeats 1000000 in
set_option maxRecDepth 100000 in
theorem qlead_any (n slf seq : Int) (a : Option Addr) (k c : Nat) (l : List Int) (w : World) (h : SegI w a k l) :
    Calls Try.prog 15 #[.int .i64 n, .int .i64 slf, .agg #[.int .i64 seq, .slice a k c]] w fun e w' => e = .returned (.bool (leadQ n slf seq l)) ∧ Below w.heap.size w w' := by
  have HS : Hid (SegI (w.alloc (.cells #[.int .i64 seq, .slice a k c] 24)) a k l) := h.below ((Below.refl _ _).alloc (Nat.le_refl _) _) (Nat.le_refl _)
  clear h
  cases h1 : szQ n with
  | false =>
    have HQ : Hid (leadQ n slf seq l = false) := by show _ = _; unfold leadQ; rw [h1]; rfl
    go_enter Try.func15, Try.ntmps15
    go_wp2_with (first | (go_at_call 25; refine (qsize_any n _).mono ?_; rintro e w1 ⟨rfl, rfl⟩; rw [h1]))
    go_ret
    exact ⟨by rw [HQ.out]; rfl, (Below.refl _ _).alloc (Nat.le_refl _) _⟩
  | true =>
    cases h2 : repQ n slf with
    | false =>
      have HQ : Hid (leadQ n slf seq l = false) := by show _ = _; unfold leadQ; rw [h2]; simp
      go_enter Try.func15, Try.ntmps15
      go_wp2_with (first | (go_at_call 25; refine (qsize_any n _).mono ?_; rintro e w1 ⟨rfl, rfl⟩; rw [h1]) | (go_at_call 26; refine (qrep_any n slf _).mono ?_; rintro e w1 ⟨rfl, rfl⟩; rw [h2]))
      go_ret
      exact ⟨by rw [HQ.out]; rfl, (Below.refl _ _).alloc (Nat.le_refl _) _⟩
    | true =>
      have HQ : Hid (leadQ n slf seq l = sndQ n seq l) := by show _ = _; unfold leadQ; rw [h1, h2]; rfl
      go_enter Try.func15, Try.ntmps15
      go_wp2_with (first | (go_at_call 25; refine (qsize_any n _).mono ?_; rintro e w1 ⟨rfl, rfl⟩; rw [h1]) | (go_at_call 26; refine (qrep_any n slf _).mono ?_; rintro e w1 ⟨rfl, rfl⟩; rw [h2]) | (go_at_call 47; refine (qsound_any n seq a k c l _ HS.out).mono ?_; rintro e w1 ⟨rfl, hb1⟩))
      go_ret
      exact ⟨by rw [HQ.out]; rfl, ((Below.refl _ _).alloc (Nat.le_refl _) _).trans (hb1.mono (by simp))⟩

/-- Is a vote of these attributes? -/
def eqA (seq : Int) (l : List Int) (v : Vt) : Bool := (v.seq == seq) && sameB v.deps l
def cntQ (seq : Int) (l : List Int) (vs : List Vt) : Nat := vs.countP (eqA seq l)
set_option maxHeartbeats 2000000 in
set_option maxRecDepth 100000 in
theorem count_any (seq : Int) (a : Option Addr) (k c : Nat) (l : List Int) (ta : Option Addr) (tc : Nat) (vs : List Vt) (w : World) (h : SegI w a k l) (hr : RowS w 2 ta vs.length (vs.map acs)) (hv : ∀ v ∈ vs, Vok w v) :
    Calls Try.prog 43 #[.slice ta vs.length tc, .agg #[.int .i64 seq, .slice a k c]] w fun e w' => e = .returned (.int .i64 (cntQ seq l vs : Int)) ∧ Below w.heap.size w w' := by
  obtain ⟨U, hU⟩ : ∃ U, U = w.alloc (.cells #[.int .i64 seq, .slice a k c] 24) := ⟨_, rfl⟩
  have BU : Hid (Below w.heap.size w U) := by rw [hU]; exact (Below.refl _ _).alloc (Nat.le_refl _) _
  have QU : Hid (Blk U w.heap.size [.int .i64 seq, .slice a k c]) := by rw [hU]; exact blk_new w 24 [.int .i64 seq, .slice a k c]
  have HS : Hid (SegI U a k l) := h.below BU.out (Nat.le_refl _)
  have HR : Hid (RowS U 2 ta vs.length (vs.map acs)) := hr.below BU.out (Nat.le_refl _) (by decide)
  have HV : Hid (∀ v ∈ vs, Vok U v) := fun v hx => (hv v hx).below BU.out (Nat.le_refl _)
  have hm := hr.max
  unfold maxLen at hm
  obtain ⟨N, hN⟩ : ∃ N, vs.length = N := ⟨_, rfl⟩
  have HN := hide hN
  rw [hN] at HR hm ⊢
  have hws : w.heap.size < U.heap.size := QU.out.lt
  clear h hr hv hN
  go_enter Try.func43, Try.ntmps43
  go_upto_region 1 with fail
  rw [← hU]
  clear hU
  go_wp2
  go_loopw [10, 5] (fun i x wr => ∃ q : Nat, i = .int .i64 (q : Int) ∧ q ≤ N ∧ x = .int .i64 (cntQ seq l (vs.take q) : Int) ∧ Hid (Below U.heap.size U wr)) (fun i _ _ => N - (intOf i).toNat)
  case atStart => exact ⟨0, rfl, Nat.zero_le _, rfl, Below.refl _ _⟩
  case round =>
    obtain ⟨q, rfl, hq, hx, HB⟩ := hrel
    have hcl : cntQ seq l (vs.take q) ≤ q := Nat.le_trans (List.countP_le_length ..) (by simp; omega)
    subst hx
    by_cases hlt : q < N
    · obtain ⟨v, hkv⟩ : ∃ v, vs[q]? = some v := ⟨_, List.getElem?_eq_getElem (by have := HN.out; omega)⟩
      have HNX : Hid (vs.take (q + 1) = vs.take q ++ [v]) := by show _ = _; rw [List.take_add_one, hkv]; rfl
      have HVO : Hid (Vok wr v) := (HV.out v (List.mem_of_getElem? hkv)).below HB.out (Nat.le_refl _)
      have HSO : Hid (SegI wr a k l) := HS.out.below HB.out (Nat.le_refl _)
      have HQO : Hid (Blk wr w.heap.size [.int .i64 seq, .slice a k c]) := QU.out.on HB.out
      obtain ⟨b, off, rfl, hat⟩ := (HR.out.below HB.out (Nat.le_refl _) (by decide)).at_ (by omega)
      have hrg : wr.rangeAt b (off + q * 2) (acs v) := hat q (acs v) (by rw [List.getElem?_map, hkv]; rfl)
      have c0 : wr.cell? ⟨b, off + q * 2, none⟩ = some (.int .i64 v.seq) := hrg 0 _ rfl
      have c1 : wr.cell? ⟨b, off + q * 2 + 1, none⟩ = some (.slice v.da v.dn v.dc) := hrg 1 _ rfl
      have d0 := HQO.out.cell 0 _ rfl
      have d1 := HQO.out.cell 1 _ rfl
      have hwr : w.heap.size < wr.heap.size := HQO.out.lt
      clear hat hkv hrg
      cases he : eqA seq l v with
      | false =>
        have HE : Hid (cntQ seq l (vs.take (q + 1)) = cntQ seq l (vs.take q)) := by show _ = _; unfold cntQ; rw [HNX.out, List.countP_append, List.countP_cons_of_neg (by rw [he]; simp)]; rfl
        by_cases hs : v.seq = seq
        · have hb : (v.seq == seq) = true := by simp [hs]
          have hsb : sameB v.deps l = false := by unfold eqA at he; rw [hb] at he; simpa using he
          clear he hs
          go_wp2_with fail
          refine (equalI_any _ _ _ _ _ _ v.deps l _ (HVO.out.seg.below ((Below.refl _ _).alloc (Nat.le_refl _) _) (Nat.le_refl _)) (HSO.out.below ((Below.refl _ _).alloc (Nat.le_refl _) _) (Nat.le_refl _))).mono ?_
          rintro e w' ⟨rfl, q', rfl⟩
          rw [hsb]
          go_wp2
          go_roundw
          case rel => exact ⟨q + 1, by go_num, by omega, by rw [HE.out], below_drewN (HB.out.alloc HB.out.size _) _⟩
          case measure => simp [intOf]; omega
        · have hb : (v.seq == seq) = false := by simp [hs]
          clear he hs
          go_wp2
          go_roundw
          case rel => exact ⟨q + 1, by go_num, by omega, by rw [HE.out], HB.out.alloc HB.out.size _⟩
          case measure => simp [intOf]; omega
      | true =>
        have HE : Hid (cntQ seq l (vs.take (q + 1)) = cntQ seq l (vs.take q) + 1) := by show _ = _; unfold cntQ; rw [HNX.out, List.countP_append, List.countP_cons_of_pos (by rw [he])]; rfl
        have hb : (v.seq == seq) = true := by unfold eqA at he; simp only [Bool.and_eq_true] at he; exact he.1
        have hsb : sameB v.deps l = true := by unfold eqA at he; simp only [Bool.and_eq_true] at he; exact he.2
        clear he
        go_wp2_with fail
        refine (equalI_any _ _ _ _ _ _ v.deps l _ (HVO.out.seg.below ((Below.refl _ _).alloc (Nat.le_refl _) _) (Nat.le_refl _)) (HSO.out.below ((Below.refl _ _).alloc (Nat.le_refl _) _) (Nat.le_refl _))).mono ?_
        rintro e w' ⟨rfl, q', rfl⟩
        rw [hsb]
        go_wp2
        go_roundw
        case rel => exact ⟨q + 1, by go_num, by omega, by rw [HE.out]; go_num, below_drewN (HB.out.alloc HB.out.size _) _⟩
        case measure => simp [intOf]; omega
    · have HE : Hid (cntQ seq l (vs.take q) = cntQ seq l vs) := by show _ = _; rw [List.take_of_length_le (by have := HN.out; omega)]
      go_wp2
      go_ret
      exact ⟨by rw [HE.out]; rfl, BU.out.trans (HB.out.mono (by omega))⟩
end Go.Proofs.Ytmplipkdaplpnaa
