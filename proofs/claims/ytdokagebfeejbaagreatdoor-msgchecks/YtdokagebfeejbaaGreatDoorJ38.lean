/- Texts of the proof, joined. -/
import Derived.Test.YtdokagebfeejbaaGreatDoorJ02
import Derived.Test.YtdokagebfeejbaaGreatDoorJ03
import Derived.Test.YtdokagebfeejbaaGreatDoorJ04
import Derived.Laws.AppendOwnNone
import Derived.Test.YtdokagebfeejbaaGreatDoorJ13
/- The contracts of packPlain, packTight and Pack. -/
namespace Go.Proofs.YtdokagebfeejbaaGreatDoor
open Go.RowKit Go.Wire1

theorem pushB {B : Nat} {w wr w1 : World} {v v' : Value} {pre new : List Int} (hB : B ≤ wr.heap.size) (hown : wr.ownsRow B 5 1 v pre.length (pre.map (Value.int .u8))) (hbel : Below B w wr)
    (hown' : w1.ownsRow B 5 1 v' (pre.length + new.length) (pre.map (Value.int .u8) ++ new.map (Value.int .u8))) (hgrow : wr.grownBy w1 v.ownBlock) :
    w1.ownsRow B 5 1 v' (pre ++ new).length ((pre ++ new).map (Value.int .u8)) ∧ Below B w w1 :=
  ⟨by rw [List.length_append, List.map_append]; exact hown', hbel.grown hgrow hB (fun j hj => (hown.lt j hj).1)⟩
theorem mine_cells {w : World} {B g N cap : Nat} {L : List Int} (h : Mine w B g N cap L) : ∀ j u, (L.map (Value.int .u8))[j]? = some u → w.cell? ((⟨g, 0, none⟩ : Addr).add j) = some u := fun j u hu => h.1.cells (g := g) rfl j u hu
theorem u8_one {L : List Int} : ∀ u ∈ L.map (Value.int .u8), u.oneCell' = true := fun u hu => by obtain ⟨x, _, rfl⟩ := List.mem_map.1 hu; rfl

/-- The array in a block of its own. -/
def ArrAt (w : World) (g : Nat) (l : List Int) : Prop := ∀ k, k < 7 → w.cell? ⟨g, k, none⟩ = some (.int .i64 (l.getD k 0))
theorem ArrAt.below {w w' : World} {g B : Nat} {l : List Int} (h : ArrAt w g l) (hb : Below B w w') (hg : g < B) : ArrAt w' g l := fun k hk => by
  rw [hb.cell (p := ⟨g, k, none⟩) hg]; exact h k hk
theorem arr_new (w : World) (l : List Int) (t : TypeId) : ArrAt (w.alloc (.cells (arrL l).toArray t)) w.heap.size l := fun k hk => by
  rw [cell_new]
  match k, hk with
  | 0, _ => rfl
  | 1, _ => rfl
  | 2, _ => rfl
  | 3, _ => rfl
  | 4, _ => rfl
  | 5, _ => rfl
  | 6, _ => rfl

set_option maxHeartbeats 1000000 in
set_option maxRecDepth 100000 in
theorem packPlain_any (l : List Int) (n : Nat) (w : World) (hn : n ≤ 7) (ho : okL l = true) :
    Calls Tryz.prog 181 #[.agg (arrL l).toArray, .int .i64 (n : Int)] w fun e w' => ∃ v, e = .returned v ∧ w'.ownsRow w.heap.size 5 1 v (plainK l n).length ((plainK l n).map (Value.int .u8)) ∧ Below w.heap.size w w' := by
  obtain ⟨i0, hi, hz0, hz1, hz2⟩ := info_parts Tryz.info5
  have HO : Hid (okL l = true) := ho
  obtain ⟨W1, hW1⟩ : ∃ W1, W1 = w.alloc (.cells (arrL l).toArray 158) := ⟨_, rfl⟩
  have A1 : Hid (ArrAt W1 w.heap.size l) := by rw [hW1]; exact arr_new w l _
  have B1 : Hid (Below w.heap.size w W1) := by rw [hW1]; exact (Below.refl _ _).more (Nat.le_refl _) _
  have hs1 : Hid (W1.heap.size = w.heap.size + 1) := by show _ = _; rw [hW1]; simp
  clear ho
  go_enter Tryz.func181, Tryz.ntmps181
  go_wp2
  rw [← hW1]
  clear hW1
  go_loopw [5, 8] (fun v i wr => ∃ k : Nat, i = .int .i64 (k : Int) ∧ k ≤ n ∧ wr.ownsRow W1.heap.size 5 1 v (plainK l k).length ((plainK l k).map (Value.int .u8)) ∧ Below W1.heap.size W1 wr) (fun _ i _ => n - (intOf i).toNat)
  case atStart => exact ⟨0, rfl, Nat.zero_le _, World.ownsRow_nil _ _ _ _, Below.refl _ _⟩
  case round =>
    obtain ⟨k, rfl, hk, hown, hbel⟩ := hrel
    have hsz := hbel.size
    by_cases hlt : k < n
    · have cx := (A1.out.below hbel (by have := hs1.out; omega)) k (by omega)
      have hx := okL_at HO.out k
      have hpl := (plainK_len HO.out k).2
      obtain ⟨y, hy⟩ := Int.eq_ofNat_of_zero_le hx.1
      have HT : Hid (plainK l (k + 1) = plainK l k ++ enc y) := by show _ = _; simp only [plainK]; rw [hy]; rfl
      rw [hy] at cx hx
      have hy2 : y ≤ 1048576 := by omega
      clear hy hx
      generalize plainK l k = pre at *
      go_wp2_with fail
      refine (putUint_any y _ (by omega)).mono ?_
      rintro e w2 ⟨v2, rfl, hown2, hb2⟩
      have hle := enc_le y (by omega)
      obtain ⟨g2, c2, hv2, hm2⟩ := mine_of hown2 (by omega)
      subst hv2
      have hownA := own_below hown hb2 (Nat.le_refl _)
      have hbelA := hbel.on hb2 (Nat.le_refl _)
      have hszA := hbelA.size
      generalize enc y = E at *
      generalize hE : E.length = m at *
      clear hown2 hown hb2 hsz
      go_wp2_with (first
        | (at_builtin; refine wpList_append_own _ rfl _ _ 42 rfl W1.heap.size 5 i0 (.int .u8 0) 1 1 Tryz.underlying42 hi hz0 hz1 hz2 rfl (by decide) _ _ _ rfl hownA ⟨g2, 0, none⟩ m c2 (E.map (Value.int .u8)) rfl ?c0 ?c1 ?c2 ?c3 ?c4 ?c5 ?_))
      case c0 => rw [List.length_map, hE, Nat.mul_one]
      case c1 => exact mine_cells hm2
      case c2 => exact u8_one
      case c3 => unfold maxLen; omega
      case c4 => omega
      case c5 => omega
      intro v' w3 hown' hgrow _
      have R := pushB (new := E) hszA hownA hbelA (by rw [hE]; exact hown') hgrow
      clear hown' hgrow hownA
      go_wp2
      go_roundw
      case rel => rw [← HT.out] at R; exact ⟨k + 1, by go_num, by omega, R.1, R.2⟩
      case measure => simp [intOf]; omega
    · obtain rfl : n = k := by omega
      have O1 := hide (own_base (B' := w.heap.size) hown (by have := hs1.out; omega))
      have BB : Hid (Below w.heap.size w wr) := B1.out.on hbel (Nat.le_refl _)
      clear hown hbel
      go_wp2
      go_ret
      exact ⟨_, rfl, O1.out, BB.out⟩

theorem or_bit {m k : Nat} (h : m < 2 ^ k) (hk : k < 7) : bits .or .u64 (m : Int) (IntKind.u64.wrap (2 ^ k)) = ((m + 2 ^ k : Nat) : Int) := by
  have h7 := pow7 (k := k) (by omega)
  have e : IntKind.u64.wrap ((2 : Int) ^ k) = ((2 ^ k : Nat) : Int) := by
    rw [IntKind.wrap_u64, show ((2 : Int) ^ k) = ((2 ^ k : Nat) : Int) by push_cast; rfl]; omega
  rw [e, u64_or_nat m (2 ^ k) (by omega) (by omega), or_pow h]

set_option maxHeartbeats 1000000 in
set_option maxRecDepth 100000 in
theorem packTight_any (l : List Int) (n : Nat) (w : World) (hn : n ≤ 7) (ho : okL l = true) :
    Calls Tryz.prog 182 #[.agg (arrL l).toArray, .int .i64 (n : Int)] w fun e w' => ∃ v, e = .returned v ∧ w'.ownsRow w.heap.size 5 1 v (enc (maskK l n) ++ diffK l n).length ((enc (maskK l n) ++ diffK l n).map (Value.int .u8)) ∧ Below w.heap.size w w' := by
  obtain ⟨i0, hi, hz0, hz1, hz2⟩ := info_parts Tryz.info5
  have HO : Hid (okL l = true) := ho
  obtain ⟨W1, hW1⟩ : ∃ W1, W1 = w.alloc (.cells (arrL l).toArray 158) := ⟨_, rfl⟩
  have A1 : Hid (ArrAt W1 w.heap.size l) := by rw [hW1]; exact arr_new w l _
  have B1 : Hid (Below w.heap.size w W1) := by rw [hW1]; exact (Below.refl _ _).more (Nat.le_refl _) _
  have hs1 : Hid (W1.heap.size = w.heap.size + 1) := by show _ = _; rw [hW1]; simp
  obtain ⟨RR, HRR⟩ : ∃ RR, Hid (enc (maskK l n) ++ diffK l n = RR) := ⟨_, rfl⟩
  rw [HRR.out]
  clear ho
  go_enter Tryz.func182, Tryz.ntmps182
  go_wp2
  rw [← hW1]
  clear hW1
  go_loopw [5, 6, 7, 10] (fun mk v bf i wr => ∃ k mm : Nat, i = .int .i64 (k : Int) ∧ k ≤ n ∧ mk = .int .u64 (mm : Int) ∧ Hid (mm = maskK l k) ∧ (∃ p : Int, bf = .int .i64 p ∧ Hid (p = prev l k)) ∧ wr.ownsRow W1.heap.size 5 1 v (diffK l k).length ((diffK l k).map (Value.int .u8)) ∧ Below W1.heap.size W1 wr) (fun _ _ _ i _ => n - (intOf i).toNat)
  case atStart => exact ⟨0, 0, rfl, Nat.zero_le _, rfl, rfl, ⟨0, rfl, rfl⟩, World.ownsRow_nil _ _ _ _, Below.refl _ _⟩
  case round =>
    obtain ⟨k, mm, rfl, hk, rfl, HMM, ⟨p, rfl, HPV⟩, hown, hbel⟩ := hrel
    have hsz := hbel.size
    have hmm : mm < 2 ^ k := by rw [HMM.out]; exact maskK_lt l k
    have h7 := pow7 (k := k) (by omega)
    by_cases hlt : k < n
    · have cx := (A1.out.below hbel (by have := hs1.out; omega)) k (by omega)
      have hx := okL_at HO.out k
      have hp := prev_ok HO.out k
      have hpl := diffK_le HO.out k
      rw [← HPV.out] at hp
      by_cases he : l.getD k 0 = p
      · have E1 := maskK_same (l := l) (k := k) (by rw [← HPV.out]; exact he)
        have HM' : Hid (mm = maskK l (k + 1)) := by show _ = _; rw [E1.1]; exact HMM.out
        have HP' : Hid (p = prev l (k + 1)) := by show _ = _; rw [prev_succ, he]
        have HD : Hid (diffK l (k + 1) = diffK l k) := E1.2
        rw [he] at cx
        clear he hx E1
        go_wp2
        go_roundw
        case rel => exact ⟨k + 1, mm, by go_num, by omega, rfl, HM', ⟨p, rfl, HP'⟩, by rw [HD.out]; exact hown, hbel⟩
        case measure => simp [intOf]; omega
      · have E1 := maskK_diff (l := l) (k := k) (by rw [← HPV.out]; exact he)
        have HM' : Hid (mm + 2 ^ k = maskK l (k + 1)) := by show _ = _; rw [E1.1, ← HMM.out]
        have HD : Hid (diffK l (k + 1) = diffK l k ++ enc (zig (l.getD k 0 - p))) := by show _ = _; rw [E1.2, ← HPV.out]
        have HP' : Hid (l.getD k 0 = prev l (k + 1)) := by show _ = _; rw [prev_succ]
        have HB : Hid (bits .or .u64 (mm : Int) (IntKind.u64.wrap (2 ^ k)) = ((mm + 2 ^ k : Nat) : Int)) := or_bit hmm (by omega)
        have hne : (l.getD k 0 != p) = true := by simpa using he
        clear he E1
        generalize l.getD k 0 = x at *
        generalize diffK l k = pre at *
        go_wp2_with fail
        refine (putInt_any (x - p) _ (by omega) (by omega)).mono ?_
        rintro e w2 ⟨v2, rfl, hown2, hb2⟩
        have hle := enc_le (zig (x - p)) (zig_lt _ (by omega) (by omega))
        obtain ⟨g2, c2, hv2, hm2⟩ := mine_of hown2 (by omega)
        subst hv2
        have hownA := own_below hown hb2 (Nat.le_refl _)
        have hbelA := hbel.on hb2 (Nat.le_refl _)
        have hszA := hbelA.size
        have cx2 : w2.cell? ⟨w.heap.size, k, none⟩ = some (.int .i64 x) := by
          rw [hb2.cell (p := ⟨w.heap.size, k, none⟩) (cell_lt cx)]; exact cx
        generalize enc (zig (x - p)) = E at *
        generalize hE : E.length = m at *
        clear hown2 hown hsz cx
        go_wp2_with (first
          | (at_builtin; refine wpList_append_own _ rfl _ _ 42 rfl W1.heap.size 5 i0 (.int .u8 0) 1 1 Tryz.underlying42 hi hz0 hz1 hz2 rfl (by decide) _ _ _ rfl hownA ⟨g2, 0, none⟩ m c2 (E.map (Value.int .u8)) rfl ?c0 ?c1 ?c2 ?c3 ?c4 ?c5 ?_))
        case c0 => rw [List.length_map, hE, Nat.mul_one]
        case c1 => exact mine_cells hm2
        case c2 => exact u8_one
        case c3 => unfold maxLen; omega
        case c4 => omega
        case c5 => omega
        intro v' w3 hown' hgrow _
        have R := pushB (new := E) hszA hownA hbelA (by rw [hE]; exact hown') hgrow
        have cx3 : w3.cell? ⟨w.heap.size, k, none⟩ = some (.int .i64 x) := by
          have h0 := (A1.out.below R.2 (by have := hs1.out; omega)) k (by omega)
          rw [h0]
          have h1 := (A1.out.below hbelA (by have := hs1.out; omega)) k (by omega)
          rw [cx2] at h1
          exact h1.symm
        clear hown' hgrow hownA hb2
        go_wp2
        go_roundw
        case rel => rw [← HD.out] at R; exact ⟨k + 1, mm + 2 ^ k, by go_num, by omega, by rw [HB.out], HM', ⟨x, rfl, HP'⟩, R.1, R.2⟩
        case measure => simp [intOf]; omega
    · obtain rfl : n = k := by omega
      have hpl := diffK_le HO.out n
      have HR : Hid (enc mm ++ diffK l n = RR) := by show _ = _; rw [HMM.out]; exact HRR.out
      clear HRR
      generalize diffK l n = pre at *
      go_wp2_with fail
      refine (putUint_any mm _ (by omega)).mono ?_
      rintro e w2 ⟨v2, rfl, hown2, hb2⟩
      have hownA := own_below hown hb2 (Nat.le_refl _)
      have hbelA := hbel.on hb2 (Nat.le_refl _)
      have hle := enc_le mm (by omega)
      have hszA := hb2.size
      generalize enc mm = E at *
      generalize hE : E.length = m at *
      have hbase : Hid (w.heap.size ≤ wr.heap.size) := by show _ ≤ _; have := hs1.out; omega
      rcases hownA.2 with ⟨hv, h0⟩ | ⟨g, cp, cur, hv, hr⟩
      · subst hv
        have hp : Hid (pre = []) := List.eq_nil_of_length_eq_zero h0
        have O1 := hide (own_base (B' := w.heap.size) hown2 hbase.out)
        have BB : Hid (Below w.heap.size w w2) := B1.out.on hbelA (Nat.le_refl _)
        go_wp2_with (first
          | (at_builtin; refine wpList_append_own_none rfl _ _ 42 rfl wr.heap.size 5 i0 1 Tryz.underlying42 hi _ _ _ rfl hown2 rfl ?_))
        go_wp2
        go_ret
        exact ⟨_, rfl, by rw [← HR.out, hp.out, List.append_nil, hE]; exact O1.out, BB.out⟩
      · have hsrc : Hid (∀ j u, (pre.map (Value.int .u8))[j]? = some u → w2.cell? ((⟨g, 0, none⟩ : Addr).add j) = some u) := fun j u hu => hownA.cells (g := g) (by rw [hv]; rfl) j u hu
        subst hv
        go_wp2_with (first
          | (at_builtin; refine wpList_append_own _ rfl _ _ 42 rfl wr.heap.size 5 i0 (.int .u8 0) 1 1 Tryz.underlying42 hi hz0 hz1 hz2 rfl (by decide) _ _ _ rfl hown2 ⟨g, 0, none⟩ pre.length cp (pre.map (Value.int .u8)) rfl ?c0 ?c1 ?c2 ?c3 ?c4 ?c5 ?_))
        case c0 => rw [List.length_map, Nat.mul_one]
        case c1 => exact hsrc.out
        case c2 => exact u8_one
        case c3 => unfold maxLen; omega
        case c4 => omega
        case c5 => omega
        intro v' w3 hown' hgrow _
        have R := pushB (w := wr) (wr := w2) (new := pre) (B := wr.heap.size) hszA (by rw [hE]; exact hown2) hb2 (by rw [hE]; exact hown') hgrow
        have O1 := hide (own_base (B' := w.heap.size) R.1 hbase.out)
        have BB : Hid (Below w.heap.size w w3) := B1.out.on (hbel.on R.2 (Nat.le_refl _)) (Nat.le_refl _)
        clear hown' hgrow R hown2 hown hownA
        go_wp2
        go_ret
        exact ⟨_, rfl, by rw [← HR.out]; exact O1.out, BB.out⟩
end Go.Proofs.YtdokagebfeejbaaGreatDoor
/- The contract of Pack. -/
namespace Go.Proofs.YtdokagebfeejbaaGreatDoor
open Go.RowKit Go.Wire1

theorem packPlain_lit {cs : Array Value} {l : List Int} (hcs : (arrL l).toArray = cs) (n : Nat) (w : World) (hn : n ≤ 7) (ho : okL l = true) :
    Calls Tryz.prog 181 #[.agg cs, .int .i64 (n : Int)] w fun e w' => ∃ v, e = .returned v ∧ w'.ownsRow w.heap.size 5 1 v (plainK l n).length ((plainK l n).map (Value.int .u8)) ∧ Below w.heap.size w w' := by
  subst hcs; exact packPlain_any l n w hn ho
theorem packTight_lit {cs : Array Value} {l : List Int} (hcs : (arrL l).toArray = cs) (n : Nat) (w : World) (hn : n ≤ 7) (ho : okL l = true) :
    Calls Tryz.prog 182 #[.agg cs, .int .i64 (n : Int)] w fun e w' => ∃ v, e = .returned v ∧ w'.ownsRow w.heap.size 5 1 v (enc (maskK l n) ++ diffK l n).length ((enc (maskK l n) ++ diffK l n).map (Value.int .u8)) ∧ Below w.heap.size w w' := by
  subst hcs; exact packTight_any l n w hn ho

set_option maxHeartbeats 1000000 in
set_option maxRecDepth 100000 in
theorem pack_any (v : Int) (a : Option Addr) (n cap : Nat) (l : List Int) (w : World) (h : SegI w a n l) :
    Calls Tryz.prog 174 #[.int .i64 v, .slice a n cap] w fun e w' => ∃ u, e = .returned (.tuple #[u, .int .i64 (packE v l : Int)]) ∧ w'.ownsRow w.heap.size 5 1 u (packR v l).length ((packR v l).map (Value.int .u8)) ∧ Below w.heap.size w w' := by
  have HS : Hid (SegI w a n l) := h
  have HL : Hid (l.length = n) := h.1
  clear h
  go_enter Tryz.func174, Tryz.ntmps174
  go_wp2_with fail
  refine (visVersion_any v _).mono ?_
  rintro e w' ⟨rfl, rfl⟩
  cases hv : okV v with
  | false =>
    have HQ : Hid (packE v l = 2 ∧ packR v l = []) := by
      have h1 : packE v l = 2 := by unfold packE; rw [if_neg (of_decide_eq_false hv)]
      exact ⟨h1, by unfold packR; rw [if_neg (by omega)]⟩
    clear hv
    go_wp2
    go_ret2
    exact ⟨_, by rw [HQ.out.1]; rfl, by rw [HQ.out.2]; exact World.ownsRow_nil _ _ _ _, Below.refl _ _⟩
  | true =>
    have HV : Hid (packE v l = fault l) := by show _ = _; unfold packE; rw [if_pos (of_decide_eq_true hv)]
    have hv2 := of_decide_eq_true hv
    go_wp2_with fail
    refine (vfaultOf_any a n cap l _ HS.out).mono ?_
    rintro e w' ⟨rfl, rfl⟩
    by_cases hf : fault l = 0
    · have ho : okL l = true ∧ 1 ≤ n ∧ n ≤ 7 := by
        have h2 := hf
        unfold fault at h2
        rw [HL.out] at h2
        split at h2
        · rename_i h3
          have := of_decide_eq_true h3
          split at h2
          · exact ⟨by assumption, this.1, this.2⟩
          · omega
        · omega
      have HO : Hid (okL l = true) := ho.1
      have hn := ho.2
      have HR : Hid (packE v l = 0 ∧ packR v l = packL v l) := by
        have h1 : packE v l = 0 := by rw [HV.out, hf]
        exact ⟨h1, by unfold packR; rw [if_pos h1]⟩
      obtain ⟨x0, x1, x2, x3, x4, x5, x6, HX⟩ : ∃ x0 x1 x2 x3 x4 x5 x6 : Int, Hid (arrL l = [.int .i64 x0, .int .i64 x1, .int .i64 x2, .int .i64 x3, .int .i64 x4, .int .i64 x5, .int .i64 x6]) := ⟨_, _, _, _, _, _, _, rfl⟩
      rw [hf]
      clear hf ho HV
      go_wp2_with fail
      refine (entriesOf_any a n cap l _ HS.out (by omega) (by omega)).mono ?_
      rintro e w1 ⟨rfl, hb1⟩
      have B1 : Hid (Below w.heap.size w w1) := hb1
      rw [HX.out]
      clear hb1
      have hbA : Hid (Below w.heap.size w (w1.alloc (.cells #[.int .i64 x0, .int .i64 x1, .int .i64 x2, .int .i64 x3, .int .i64 x4, .int .i64 x5, .int .i64 x6] 158))) := B1.out.more (Nat.le_refl _) _
      have hsz : Hid (w.heap.size ≤ (w1.alloc (.cells #[.int .i64 x0, .int .i64 x1, .int .i64 x2, .int .i64 x3, .int .i64 x4, .int .i64 x5, .int .i64 x6] 158)).heap.size) := hbA.out.size
      by_cases h1 : v = 1
      · subst h1
        have HP : Hid (plainK l n = packR 1 l) := by show _ = _; rw [HR.out.2]; unfold packL; rw [if_pos rfl, HL.out]
        clear hv hv2
        go_wp2_with fail
        refine (packPlain_lit (l := l) (by rw [HX.out]) n _ (by omega) HO.out).mono ?_
        rintro e w2 ⟨u, rfl, hown, hb2⟩
        have O1 := hide (own_base (B' := w.heap.size) hown hsz.out)
        have BB : Hid (Below w.heap.size w w2) := hbA.out.on hb2 (Nat.le_refl _)
        clear hown hb2 hsz hbA
        go_wp2
        go_ret2
        exact ⟨_, by rw [HR.out.1]; rfl, by rw [← HP.out]; exact O1.out, BB.out⟩
      · have HP : Hid (enc (maskK l n) ++ diffK l n = packR v l) := by show _ = _; rw [HR.out.2]; unfold packL Go.Wire1.tight; rw [if_neg h1, HL.out]
        have d1 : (v == 1) = false := beq_eq_false_iff_ne.2 h1
        clear hv hv2
        go_wp2_with fail
        refine (packTight_lit (l := l) (by rw [HX.out]) n _ (by omega) HO.out).mono ?_
        rintro e w2 ⟨u, rfl, hown, hb2⟩
        have O1 := hide (own_base (B' := w.heap.size) hown hsz.out)
        have BB : Hid (Below w.heap.size w w2) := hbA.out.on hb2 (Nat.le_refl _)
        clear hown hb2 hsz hbA
        go_wp2
        go_ret2
        exact ⟨_, by rw [HR.out.1]; rfl, by rw [← HP.out]; exact O1.out, BB.out⟩
    · have HQ : Hid (packE v l = fault l ∧ packR v l = []) := ⟨HV.out, by unfold packR; rw [if_neg (by rw [HV.out]; exact hf)]⟩
      have hb : ((fault l : Int) != 0) = true := by rw [bne_iff_ne]; omega
      clear hf hv hv2
      generalize fault l = f at *
      go_wp2
      go_ret2
      exact ⟨_, by rw [HQ.out.1]; rfl, by rw [HQ.out.2]; exact World.ownsRow_nil _ _ _ _, Below.refl _ _⟩

end Go.Proofs.YtdokagebfeejbaaGreatDoor
