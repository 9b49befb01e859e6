/- Texts of the proof, joined. -/
import Derived.Test.YtdokagebfeejbaaGreatDoorJ39
import Derived.Lib.AppendZerosOnto
import Derived.Lib.SliceRun
import Derived.Test.YtdokagebfeejbaaGreatDoorJ01
import Derived.Shelf.Abstract
/- The contracts of slices.Grow (from nothing) and of slices.Concat, on bytes. -/
namespace Go.Proofs.YtdokagebfeejbaaGreatDoor
open Go.RowKit Go.Wire1

set_option maxHeartbeats 800000 in
set_option maxRecDepth 100000 in
theorem grow_room (base : Option Addr) (l c n : Nat) (w : World) (hlc : l ≤ c) (hc63 : c ≤ 9223372036854775807) (hn63 : n ≤ 9223372036854775807) (hroom : l + n ≤ c) :
    Calls Tryz.prog 168 #[.slice base l c, .int .i64 (n : Int)] w fun e w' => e = .returned (.slice base l c) ∧ w' = w := by
  have h1 : ¬ ((n : Int) < 0) := by omega
  have h2 : wrap64 ((c : Int) - (l : Int)) = (c : Int) - (l : Int) := by unfold wrap64; omega
  have h3 : wrap64 ((n : Int) - ((c : Int) - (l : Int))) = (n : Int) - ((c : Int) - (l : Int)) := by unfold wrap64; omega
  have h4 : ¬ ((n : Int) - ((c : Int) - (l : Int)) > 0) := by omega
  go_enter Tryz.func168, Tryz.ntmps168
  go_wp2
  go_ret
  exact ⟨rfl, rfl⟩

/-- What Grow leaves where there was no room. -/
def Grew (w : World) (l n c : Nat) (cs : List Value) (e : Ending) (w' : World) : Prop := ∃ (G : Nat) (zs : List Value), l + n ≤ G ∧ G ≤ maxLen ∧ zs.length = G - c ∧ e = .returned (.slice (some ⟨w.heap.size, 0, none⟩) l G) ∧ w' = w.drew.alloc (.cells (cs ++ zs).toArray 5)

set_option maxHeartbeats 800000 in
set_option maxRecDepth 100000 in
theorem grow_grow (base : Option Addr) (l c n : Nat) (cs : List Value) (w : World) (hlc : l ≤ c) (hroom : c < l + n) (hbig : l + n ≤ 140737488355328)
    (hcl : cs.length = c) (hnil : base = none → c = 0) (hcs : ∀ a, base = some a → ∀ j v, cs[j]? = some v → w.cell? (a.add j) = some v) :
    Calls Tryz.prog 168 #[.slice base l c, .int .i64 (n : Int)] w fun e w' => Grew w l n c cs e w' := by
  obtain ⟨i0, hi0, hz0, hz1, hz2⟩ := info_parts Tryz.info5
  have h1 : ¬ ((n : Int) < 0) := by omega
  have h2 : wrap64 ((c : Int) - (l : Int)) = (c : Int) - (l : Int) := by unfold wrap64; omega
  have h3 : wrap64 ((n : Int) - ((c : Int) - (l : Int))) = (n : Int) - ((c : Int) - (l : Int)) := by unfold wrap64; omega
  have h4 : (n : Int) - ((c : Int) - (l : Int)) > 0 := by omega
  have hck : c + (l + n - c) = l + n := by omega
  have hold : (Builtin.firstCells i0.size c (.slice base c c)).run Tryz.prog w.drew = .ok cs.toArray w.drew := by
    cases base with
    | none =>
      have h0 := hnil rfl
      subst h0
      have hc0 : cs = [] := List.length_eq_zero_iff.1 hcl
      rw [hc0]
      exact run_firstCells_none w.drew i0.size 0 0 0
    | some a => exact run_firstCells_some w.drew i0.size c a c c cs (by rw [hcl, hz1]; omega) (fun j v hj => hcs a rfl j v hj)
  obtain ⟨G, hG⟩ : ∃ G, G = grownCap w (l + n) c 5 := ⟨_, rfl⟩
  have hGn : l + n ≤ G := by rw [hG]; exact grownCap_ge w _ _ _
  have hGm : G ≤ maxLen := by rw [hG]; exact grownCap_le_maxLen w (l + n) c 5 (by unfold maxLen; omega)
  obtain ⟨zs, hzs⟩ : ∃ zs : List Value, zs = (Builtin.zeroCells (Value.cells (.int .u8 0)) (l + n - c)).toList ++ (Builtin.zeroCells (Value.cells (.int .u8 0)) (G - (l + n))).toList := ⟨_, rfl⟩
  have hzl : zs.length = G - c := by rw [hzs]; simp [Builtin.zeroCells, Value.cells]; omega
  have hrz : ∀ ty, (Builtin.append_ #[42, 3] ty #[.slice base c c, .int .i64 ((n : Int) - ((c : Int) - (l : Int)))]).run Tryz.prog w =
      .ok (.slice (some ⟨w.heap.size, 0, none⟩) (l + n) G) (w.drew.alloc (.cells (cs ++ zs).toArray 5)) := fun ty => by
    have h := Lib.run_append_grow_zeros w 42 3 ty 5 i0 (.int .u8 0) .i64 .i64 Tryz.underlying42 Tryz.underlying3 hi0 hz0 base c c cs hold (l + n - c) (by omega) (by omega) (by omega) (by omega)
      (by rw [hz2]; omega) (by rw [hck]; exact growslice_fits hroom (by rw [hz2]; omega))
    rw [hck, ← hG] at h
    rw [show (n : Int) - ((c : Int) - (l : Int)) = ((l + n - c : Nat) : Int) by omega, h, hzs]
    congr 3
    apply Array.ext'
    simp
  have hG63 : G ≤ 9223372036854775807 := by unfold maxLen at hGm; omega
  have HE : Hid (Grew w l n c cs (.returned (.slice (some ⟨w.heap.size, 0, none⟩) l G)) (w.drew.alloc (.cells (cs ++ zs).toArray 5))) := ⟨G, zs, hGn, hGm, hzl, rfl, rfl⟩
  clear hold hck hG hcs hcl hGm hzl hzs hi0 hz0 hz1 hz2
  go_enter Tryz.func168, Tryz.ntmps168
  cases base with
  | none =>
    have h0 := hnil rfl
    subst h0
    obtain rfl : l = 0 := by omega
    go_wp2_with (at_builtin; refine Lib.wpList_append_run _ rfl _ _ _ _ rfl _ _ rfl rfl _ _ (hrz _) ?_)
    all_goals go_ret
    all_goals exact HE.out
  | some a =>
    obtain ⟨ab, ao, asp⟩ := a
    go_wp2_with (at_builtin; refine Lib.wpList_append_run _ rfl _ _ _ _ rfl _ _ rfl rfl _ _ (hrz _) ?_)
    all_goals go_ret
    all_goals exact HE.out

theorem grow_nil (n : Nat) (w : World) (hn : n ≤ 1000000) :
    Calls Tryz.prog 168 #[.slice none 0 0, .int .i64 (n : Int)] w fun e w' => ∃ v, e = .returned v ∧ w'.ownsRow w.heap.size 5 1 v 0 [] ∧ Below w.heap.size w w' := by
  by_cases h0 : n = 0
  · subst h0
    refine (grow_room none 0 0 0 w (by decide) (by decide) (by decide) (by decide)).mono ?_
    rintro e w' ⟨rfl, rfl⟩
    exact ⟨_, rfl, World.ownsRow_nil _ _ _ _, Below.refl _ _⟩
  · refine (grow_grow none 0 0 n [] w (Nat.le_refl _) (by omega) (by omega) rfl (fun _ => rfl) (fun a e => by cases e)).mono ?_
    rintro e w' ⟨G, zs, h1, h2, h3, rfl, rfl⟩
    refine ⟨_, rfl, ⟨rfl, .inr ⟨w.heap.size, G, zs.toArray, rfl, Nat.le_refl _, heap_alloc_new w.drew _, Nat.zero_le _, h2, by simp; omega, rfl⟩⟩, (Below.refl _ _).drew.alloc (Nat.le_refl _) _⟩
/-- Lists of bytes of our own in a row. -/
def Srcs (w : World) (g : Nat) (us : List Value) (Ls : List (List Int)) : Prop := us.length = Ls.length ∧ ∀ i, i < Ls.length → w.cell? ⟨g, i, none⟩ = some (us.getD i undef) ∧ (∃ C, w.ownsRow C 5 1 (us.getD i undef) (Ls.getD i []).length ((Ls.getD i []).map (Value.int .u8))) ∧ 0 < (Ls.getD i []).length
theorem cat_snoc {Ls : List (List Int)} {i : Nat} (h : i < Ls.length) : (Ls.take (i + 1)).flatten = (Ls.take i).flatten ++ Ls.getD i [] := by
  rw [List.take_succ_eq_append_getElem h, List.flatten_append]
  simp [List.getD, List.getElem?_eq_getElem h]
theorem cat_le (Ls : List (List Int)) (i : Nat) : (Ls.take i).flatten.length ≤ Ls.flatten.length := by
  have : Ls.flatten = (Ls.take i).flatten ++ (Ls.drop i).flatten := by rw [← List.flatten_append, List.take_append_drop]
  rw [this, List.length_append]; omega
set_option maxHeartbeats 4000000 in
set_option maxRecDepth 100000 in
theorem concat_any (g : Nat) (us : List Value) (Ls : List (List Int)) (k : Nat) (hk : Ls.length = k) (hk9 : k ≤ 9) (w : World) (h : Srcs w g us Ls) (ht : Ls.flatten.length ≤ 1000000) :
    Calls Tryz.prog 163 #[.slice (some ⟨g, 0, none⟩) k k] w fun r w' => Bts w Ls.flatten r w' := by
  have HH := hide h
  have HK := hide hk
  have HT := hide ht
  clear h hk ht
  unfold Bts
  go_enter Tryz.func163, Tryz.ntmps163
  go_wp2
  go_loopw [3, 11] (fun sv iv wr => ∃ (i T : Nat), sv = .int .i64 (T : Int) ∧ iv = .int .i64 (i : Int) ∧ i ≤ k ∧ Hid (T = (Ls.take i).flatten.length) ∧ T ≤ 1000000 ∧ w = wr) (fun _ iv _ => k - (intOf iv).toNat)
  case atStart => exact ⟨0, 0, rfl, rfl, Nat.zero_le _, rfl, Nat.zero_le _, rfl⟩
  case round =>
    obtain ⟨i, T, rfl, rfl, hi, hT, hTm, rfl⟩ := hrel
    by_cases hlt : i < k
    · have hil : i < Ls.length := by rw [HK.out]; exact hlt
      obtain ⟨hc, ⟨C, ho⟩, hp⟩ := HH.out.2 i hil
      obtain ⟨ua, ucap, hu⟩ := own_shape ho
      rw [hu] at hc
      have hsn := congrArg List.length (cat_snoc hil)
      have hle := cat_le Ls (i + 1)
      rw [List.length_append] at hsn
      generalize (Ls.getD i []).length = m at *
      have HT2 : Hid (T + m = (Ls.take (i + 1)).flatten.length) := by show _ = _; rw [hsn, ← hT.out]
      have hTm2 : T + m ≤ 1000000 := by have := HT.out; have := HT2.out; omega
      clear hsn hle ho hp hu hil hT
      go_wp2
      go_roundw
      case rel => exact ⟨i + 1, T + m, by go_num, by go_num, by omega, HT2, hTm2, by first | rfl | trivial⟩
      case measure => simp [intOf]; omega
    · obtain rfl : i = k := by omega
      clear hT hlt hi
      go_wp2_with fail
      refine (grow_nil T w hTm).mono ?_
      rintro e w1 ⟨v1, rfl, o1, b1⟩
      have O1 := hide o1
      have B1 := hide b1
      clear o1 b1
      go_wp2
      go_loopw [6, 27] (fun av iv wr => ∃ (j : Nat), iv = .int .i64 (j : Int) ∧ j ≤ i ∧ Hid (wr.ownsRow w.heap.size 5 1 av (Ls.take j).flatten.length ((Ls.take j).flatten.map (Value.int .u8))) ∧ Hid (Below w.heap.size w wr)) (fun _ iv _ => i - (intOf iv).toNat)
      case atStart => exact ⟨0, rfl, Nat.zero_le _, O1, B1⟩
      case round =>
        clear O1 B1
        obtain ⟨j, rfl, hj, OJ, BJ⟩ := hrel
        by_cases hlt : j < i
        · have hil : j < Ls.length := by rw [HK.out]; exact hlt
          obtain ⟨hc, ⟨C, ho⟩, hp⟩ := HH.out.2 j hil
          have hcell : wr.cell? ⟨g, j, none⟩ = some (us.getD j undef) := by rw [BJ.out.cell (p := ⟨g, j, none⟩) (cell_lt hc)]; exact hc
          have OS := hide (own_below ho BJ.out (Nat.le_refl _))
          have hsn := cat_snoc hil
          have hle := cat_le Ls (j + 1)
          obtain ⟨EE, hEE⟩ : ∃ EE, Hid ((Ls.take j).flatten ++ Ls.getD j [] = EE) := ⟨_, rfl⟩
          have HEJ : Hid ((Ls.take (j + 1)).flatten = EE) := by rw [← hEE.out]; exact hsn
          rw [hsn, List.length_append] at hle
          have hlen : (Ls.take j).flatten.length + (Ls.getD j []).length ≤ 1000000 := by have := HT.out; omega
          obtain ⟨ua, ucap, hu⟩ := own_shape ho
          rw [hu] at hcell OS
          have hsz : w.heap.size ≤ wr.heap.size := BJ.out.size
          clear hsn hle ho hc hu hil
          generalize (Ls.take j).flatten = LJ at *
          generalize Ls.getD j [] = LX at *
          obtain ⟨av, hav⟩ : ∃ av, Hid (u6 = av) := ⟨_, rfl⟩
          go_wp2_with (first | (at_builtin; refine wpList_join rfl _ _ rfl w.heap.size C u6 (.slice ua LX.length ucap) LJ LX EE hEE rfl rfl OJ.out OS.out hp hlen hsz ?_))
          intro v' w3 ho hg
          have RR : Hid (w3.ownsRow w.heap.size 5 1 v' (Ls.take (j + 1)).flatten.length ((Ls.take (j + 1)).flatten.map (Value.int .u8)) ∧ Below w.heap.size w w3) := by
            rw [HEJ.out]
            exact ⟨ho, BJ.out.grown hg hsz (fun j hj => (OJ.out.lt j hj).1)⟩
          clear ho hg
          go_wp2
          go_roundw
          case rel => exact ⟨j + 1, by go_num, by omega, RR.out.1, RR.out.2⟩
          case measure => simp [intOf]; omega
        · obtain rfl : j = i := by omega
          have htk : Ls.take j = Ls := List.take_of_length_le (Nat.le_of_eq HK.out)
          rw [htk] at OJ
          go_wp2
          go_ret
          exact ⟨_, rfl, OJ.out, BJ.out⟩
end Go.Proofs.YtdokagebfeejbaaGreatDoor
/- The contracts of the bytes methods of the shapes. -/
namespace Go.Proofs.YtdokagebfeejbaaGreatDoor
open Go.RowKit Go.Wire1

def insP (v : Int) (x y : Nat) : List Int := if v = 1 then enc x ++ enc y else enc (8 * y + x)
def balP (v : Int) (x y : Nat) : List Int := if v = 1 then enc x ++ enc y else enc (8 * x + y)
def votP (v : Int) (st : Nat) (sm : Bool) : List Int := if v = 1 then votP1 st sm else votP2 st sm
def staP (v : Int) (kd row num : Nat) : List Int := (kd : Int) :: insP v row num
theorem insP_len (v : Int) (x y : Nat) : 0 < (insP v x y).length ∧ (insP v x y).length ≤ 20 := by
  unfold insP
  have := encF_pos x; have := enc_ten x; have := enc_ten y; have := encF_pos (8 * y + x); have := enc_ten (8 * y + x)
  split
  · rw [List.length_append]; omega
  · omega
theorem balP_len (v : Int) (x y : Nat) : 0 < (balP v x y).length ∧ (balP v x y).length ≤ 20 := by
  unfold balP
  have := encF_pos x; have := enc_ten x; have := enc_ten y; have := encF_pos (8 * x + y); have := enc_ten (8 * x + y)
  split
  · rw [List.length_append]; omega
  · omega
theorem staP_len (v : Int) (kd x y : Nat) : 0 < (staP v kd x y).length ∧ (staP v kd x y).length ≤ 21 := by
  unfold staP
  have := insP_len v x y
  rw [List.length_cons]; omega
def All2 (W : World) : List Value → List (List Int) → Prop
  | [], [] => True
  | u :: us, L :: Ls => (∃ C, W.ownsRow C 5 1 u L.length (L.map (Value.int .u8))) ∧ 0 < L.length ∧ All2 W us Ls
  | _, _ => False
theorem All2.at {W : World} : ∀ {us : List Value} {Ls : List (List Int)}, All2 W us Ls → us.length = Ls.length ∧ ∀ i, i < Ls.length → (∃ C, W.ownsRow C 5 1 (us.getD i undef) (Ls.getD i []).length ((Ls.getD i []).map (Value.int .u8))) ∧ 0 < (Ls.getD i []).length
  | [], [], _ => ⟨rfl, fun i hi => by simp at hi⟩
  | u :: us, L :: Ls, h => by
    obtain ⟨h1, h2, h3⟩ := h
    obtain ⟨e, r⟩ := All2.at h3
    refine ⟨by simp [e], fun i hi => ?_⟩
    cases i with
    | zero => exact ⟨h1, h2⟩
    | succ i => exact r i (by simpa using hi)
  | [], _ :: _, h => h.elim
  | _ :: _, [], h => h.elim
theorem srcs_new {W : World} {us : List Value} {Ls : List (List Int)} (T : TypeId) (h : All2 W us Ls) : Srcs (W.alloc (.cells us.toArray T)) W.heap.size us Ls := by
  obtain ⟨e, r⟩ := h.at
  refine ⟨e, fun i hi => ?_⟩
  obtain ⟨⟨C, ho⟩, hp⟩ := r i hi
  refine ⟨?_, ⟨C, own_below ho ((Below.refl _ _).alloc (Nat.le_refl _) _) (Nat.le_refl _)⟩, hp⟩
  rw [World.cell?_alloc_at _ _ _ _ rfl]
  simp [List.getD, List.getElem?_eq_getElem (show i < us.length by omega)]
end Go.Proofs.YtdokagebfeejbaaGreatDoor
/- The contracts of the bytes methods of the shapes, over any layout whose parts are right. -/
namespace Go.Proofs.YtdokagebfeejbaaGreatDoor
open Go.RowKit Go.Wire1

structure LayC (vv : Int) (f1 f2 f3 f4 f5 f6 : Nat) : Prop where
  st : ∀ (kd x y : Nat) (w : World), kd < 128 → x < 1152921504606846976 → y < 1152921504606846976 →
    Calls Tryz.prog 164 #[.agg #[.int .i64 (kd : Int), .int .i64 (x : Int), .int .i64 (y : Int)], .agg #[.int .i64 vv, .func (.func f1) #[] #[], .func (.func f2) #[] #[], .func (.func f3) #[] #[], .func (.func f4) #[] #[], .func (.func f5) #[] #[], .func (.func f6) #[] #[]]] w fun r w' => Bts w (staP vv kd x y) r w'
  pb : ∀ (x y : Nat) (w : World), x < 1152921504606846976 → y < 1152921504606846976 →
    Calls Tryz.prog f2 #[.agg #[.int .i64 (x : Int), .int .i64 (y : Int)]] w fun r w' => Bts w (balP vv x y) r w'
  pv : ∀ (st : Nat) (sm : Bool) (w : World), st < 128 → Calls Tryz.prog f3 #[.int .i64 (st : Int), .bool sm] w fun r w' => Bts w (votP vv st sm) r w'
  ab : ∀ (sq : Nat) (ua : Option Addr) (uk uc : Nat) (dl : List Int) (w : World), sq < 9223372036854775808 → SegI w ua uk dl → 0 < (packR vv dl).length → (packR vv dl).length ≤ 1000 →
    Calls Tryz.prog 170 #[.agg #[.int .i64 vv, .func (.func f1) #[] #[], .func (.func f2) #[] #[], .func (.func f3) #[] #[], .func (.func f4) #[] #[], .func (.func f5) #[] #[], .func (.func f6) #[] #[]], .agg #[.int .i64 (sq : Int), .slice ua uk uc]] w fun r w' => Bts w (attP vv sq dl) r w'
  e2 : ∀ args w, (callFunc f2 args).run Tryz.prog w = .ok (.enter f2 args) w
  e3 : ∀ args w, (callFunc f3 args).run Tryz.prog w = .ok (.enter f3 args) w
  lo : ∀ (c : Cm) (sq : Nat) (ua : Option Addr) (uk uc : Nat) (dl : List Int) (w : World), Knd w → c.key.size ≤ 140737488351232 → c.key2.size ≤ 140737488351232 → -9223372036854775808 ≤ c.n → c.n ≤ 9223372036854775807 → chk vv c = 0 → sq < 9223372036854775808 → SegI w ua uk dl → 0 < (packR vv dl).length → (packR vv dl).length ≤ 1000 →
    Calls Tryz.prog 165 #[.agg #[.int .i64 c.kind, .int .i64 c.client, .int .i64 c.req, .string c.key, .string c.key2, .string c.val, .string c.old, .int .i64 c.n, .int .i64 (sq : Int), .slice ua uk uc], .agg #[.int .i64 vv, .func (.func f1) #[] #[], .func (.func f2) #[] #[], .func (.func f3) #[] #[], .func (.func f4) #[] #[], .func (.func f5) #[] #[], .func (.func f6) #[] #[]]] w fun r w' => Bts w (lodP vv c sq dl) r w'
theorem lc2 : LayC 2 58 59 60 61 62 63 := ⟨start2_any, putBallot2_any, putVote2_any, attr2_any, enters_of Tryz.func59 (by kernel_rfl) rfl, enters_of Tryz.func60 (by kernel_rfl) rfl, load2_any⟩

set_option maxHeartbeats 4000000 in
set_option maxRecDepth 100000 in
theorem bytes_balloted {vv : Int} {f1 f2 f3 f4 f5 f6 : Nat} (lc : LayC vv f1 f2 f3 f4 f5 f6) (kd row num x y : Nat) (w : World) (hkd : kd < 128) (hrow : row < 1152921504606846976) (hnum : num < 1152921504606846976) (hx : x < 1152921504606846976) (hy : y < 1152921504606846976) :
    Calls Tryz.prog 186 #[.agg #[.int .i64 (kd : Int), .int .i64 (row : Int), .int .i64 (num : Int), .int .i64 (x : Int), .int .i64 (y : Int)], .agg #[.int .i64 vv, .func (.func f1) #[] #[], .func (.func f2) #[] #[], .func (.func f3) #[] #[], .func (.func f4) #[] #[], .func (.func f5) #[] #[], .func (.func f6) #[] #[]]] w fun r w' => Bts w ([staP vv kd row num, balP vv x y] : List (List Int)).flatten r w' := by
  obtain ⟨X, hX⟩ : ∃ X, X = (w.alloc (.cells #[.int .i64 (kd : Int), .int .i64 (row : Int), .int .i64 (num : Int), .int .i64 (x : Int), .int .i64 (y : Int)] 98)).alloc (.cells #[.int .i64 vv, .func (.func f1) #[] #[], .func (.func f2) #[] #[], .func (.func f3) #[] #[], .func (.func f4) #[] #[], .func (.func f5) #[] #[], .func (.func f6) #[] #[]] 73) := ⟨_, rfl⟩
  have Q0 := blk_new w 98 [.int .i64 (kd : Int), .int .i64 (row : Int), .int .i64 (num : Int), .int .i64 (x : Int), .int .i64 (y : Int)]
  have QL0 := blk_new (w.alloc (.cells #[.int .i64 (kd : Int), .int .i64 (row : Int), .int .i64 (num : Int), .int .i64 (x : Int), .int .i64 (y : Int)] 98)) 73 [.int .i64 vv, .func (.func f1) #[] #[], .func (.func f2) #[] #[], .func (.func f3) #[] #[], .func (.func f4) #[] #[], .func (.func f5) #[] #[], .func (.func f6) #[] #[]]
  have QS : Hid (Blk X w.heap.size [.int .i64 (kd : Int), .int .i64 (row : Int), .int .i64 (num : Int), .int .i64 (x : Int), .int .i64 (y : Int)]) := by rw [hX]; exact Q0.on ((Below.refl _ _).alloc (Nat.le_refl _) _)
  have QL : Hid (Blk X (w.heap.size + 1) [.int .i64 vv, .func (.func f1) #[] #[], .func (.func f2) #[] #[], .func (.func f3) #[] #[], .func (.func f4) #[] #[], .func (.func f5) #[] #[], .func (.func f6) #[] #[]]) := by rw [hX]; rw [World.size_alloc] at QL0; exact QL0
  have BX : Hid (Below w.heap.size w X) := by rw [hX]; exact ((Below.refl _ w).alloc (Nat.le_refl _) _).alloc (by simp) _
  clear Q0 QL0
  have C0 : Hid (∀ W, Below X.heap.size X W → Calls Tryz.prog 164 #[.agg #[.int .i64 (kd : Int), .int .i64 (row : Int), .int .i64 (num : Int)], .agg #[.int .i64 vv, .func (.func f1) #[] #[], .func (.func f2) #[] #[], .func (.func f3) #[] #[], .func (.func f4) #[] #[], .func (.func f5) #[] #[], .func (.func f6) #[] #[]]] W fun r w' => Bts W (staP vv kd row num) r w') := fun W hW => lc.st kd row num W hkd hrow hnum
  have q0 := staP_len vv kd row num
  have C1 : Hid (∀ W, Below X.heap.size X W → Calls Tryz.prog f2 #[.agg #[.int .i64 (x : Int), .int .i64 (y : Int)]] W fun r w' => Bts W (balP vv x y) r w') := fun W hW => lc.pb x y W hx hy
  have q1 := balP_len vv x y
  generalize staP vv kd row num = SL at *
  generalize balP vv x y = BL at *
  have hTot : ([SL, BL] : List (List Int)).flatten.length ≤ 1000000 := by simp; omega
  obtain ⟨TL, hTL⟩ : ∃ TL, Hid (([SL, BL] : List (List Int)).flatten = TL) := ⟨_, rfl⟩
  rw [hTL.out]
  have E2 := lc.e2
  have E3 := lc.e3
  go_enter Tryz.func186, Tryz.ntmps186
  go_upto_region 1 with fail
  rw [← hX]
  clear hX
  have S0 := belX X
  refine wp_region_held_drew (S := (fun w' => Below X.heap.size X w')) (by kernel_rfl) S0 (fun hHeld => ?_)
  refine tk 0 ?_
  refine tq 1 rfl (yieldsIf_load_mid (by rfl) 88 _ rfl w.heap.size 0 rfl [.int .i64 (kd : Int), .int .i64 (row : Int), .int .i64 (num : Int)] _ (fun _ h => QS.out.sub h 0 [.int .i64 (kd : Int), .int .i64 (row : Int), .int .i64 (num : Int)] rfl) Tryz.underlying88 rfl (by kernel_rfl)) ?_
  refine tq 2 rfl (yieldsIf_load_mid (by rfl) 73 _ rfl (w.heap.size + 1) 0 rfl [.int .i64 vv, .func (.func f1) #[] #[], .func (.func f2) #[] #[], .func (.func f3) #[] #[], .func (.func f4) #[] #[], .func (.func f5) #[] #[], .func (.func f6) #[] #[]] _ (fun _ h => QL.out.sub h 0 [.int .i64 vv, .func (.func f1) #[] #[], .func (.func f2) #[] #[], .func (.func f3) #[] #[], .func (.func f4) #[] #[], .func (.func f5) #[] #[], .func (.func f6) #[] #[]] rfl) Tryz.underlying73 rfl (by kernel_rfl)) ?_
  refine tk 4 ?_
  refine wpAnyH_take (i := 5) (v := ?_) rfl (by kernel_rfl) (by kernel_rfl) (by kernel_rfl) (fun _ _ _ h => h) (Or.inl ⟨by rfl, ?_⟩) (by assumption) ?_
  rotate_left
  · intro w hSw
    try dsimp only at hSw
    have c5 := QL.out.c1 hSw 2 _ rfl
    go_simp
    try with_reducible rfl
  try simp only [Act.put, List.getElem_toArray, List.getElem_cons_succ, List.getElem_cons_zero, List.setIfInBounds_toArray, List.set_cons_zero, List.set_cons_succ]
  refine tk 6 ?_
  refine tq 7 rfl (yieldsIf_load_mid (by rfl) 25 _ rfl w.heap.size 3 rfl [.int .i64 (x : Int), .int .i64 (y : Int)] _ (fun _ h => QS.out.sub h 3 [.int .i64 (x : Int), .int .i64 (y : Int)] rfl) Tryz.underlying25 rfl (by kernel_rfl)) ?_
  refine wpAnyH_ready (rs := [3]) (by kernel_rfl) (by simp) ?_
  refine AllReadyH.cons rfl (fun K hK => ?_) AllReadyH.nil
  rw [if_pos (by rfl)]
  go_wp2_with fail
  refine (C0.out _ S0).mono ?_
  rintro e W0 ⟨u0, rfl, o0, b0⟩
  have P0 := S0.trans (b0.mono S0.size)
  clear b0
  obtain ⟨va0, vc0, rfl⟩ := own_shape o0
  refine hK.out _ _ P0 (fun hHeld => ?_)
  clear hK K
  try simp only [Act.put, List.getElem_toArray, List.getElem_cons_succ, List.getElem_cons_zero, List.setIfInBounds_toArray, List.set_cons_zero, List.set_cons_succ]
  refine wpAnyH_ready (rs := [8]) (by kernel_rfl) (by simp) ?_
  refine AllReadyH.cons rfl (fun K hK => ?_) AllReadyH.nil
  rw [if_pos (by rfl)]
  go_wp2_with fail
  refine (C1.out _ P0).mono ?_
  rintro e W1 ⟨u1, rfl, o1, b1⟩
  have P1 := P0.trans (b1.mono P0.size)
  have o0 := own_below o0 b1 (Nat.le_refl _)
  clear b1
  obtain ⟨va1, vc1, rfl⟩ := own_shape o1
  refine hK.out _ _ P1 (fun hHeld => ?_)
  clear hK K
  try simp only [Act.put, List.getElem_toArray, List.getElem_cons_succ, List.getElem_cons_zero, List.setIfInBounds_toArray, List.set_cons_zero, List.set_cons_succ]
  refine wpAnyH_ready (rs := [9]) (by kernel_rfl) (by simp) ?_
  refine AllReadyH.cons rfl (fun K hK => ?_) AllReadyH.nil
  rw [if_pos (by rfl)]
  go_wp2_with fail
  have PA := P1.alloc P1.size (.cells #[.slice va0 SL.length vc0, .slice va1 BL.length vc1] 42)
  refine hK.out _ _ PA (fun hHeld => ?_)
  clear hK K
  try simp only [Act.put, List.getElem_toArray, List.getElem_cons_succ, List.getElem_cons_zero, List.setIfInBounds_toArray, List.set_cons_zero, List.set_cons_succ]
  refine wpAnyH_ready (rs := [10]) (by kernel_rfl) (by simp) ?_
  refine AllReadyH.cons rfl (fun K hK => ?_) AllReadyH.nil
  rw [if_pos (by rfl)]
  go_wp2_with fail
  refine (concat_any _ [.slice va0 SL.length vc0, .slice va1 BL.length vc1] [SL, BL] 2 rfl (by decide) _ (srcs_new _ ⟨⟨_, o0⟩, q0.1, ⟨_, o1⟩, q1.1, trivial⟩) hTot).mono ?_
  rintro e W9 ⟨u9, rfl, o9, b9⟩
  have P9 := PA.trans (b9.mono PA.size)
  have RR : Hid (Bts w TL (.returned u9) W9) := by
    rw [← hTL.out]
    exact bts_box (BX.out.trans (PA.mono BX.out.size)) ⟨u9, rfl, o9, b9⟩
  refine hK.out _ _ P9 (fun hHeld => ?_)
  clear hK K
  try simp only [Act.put, List.getElem_toArray, List.getElem_cons_succ, List.getElem_cons_zero, List.setIfInBounds_toArray, List.set_cons_zero, List.set_cons_succ]
  refine tk 11 ?_
  refine wpAnyH_done (by kernel_rfl) ?_ _
  go_wp2
  go_ret
  exact RR.out
end Go.Proofs.YtdokagebfeejbaaGreatDoor
