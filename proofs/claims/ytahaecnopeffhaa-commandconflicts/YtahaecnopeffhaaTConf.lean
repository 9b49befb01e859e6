/- The contracts of package command's meet and Conflict. -/
import Derived.Test.YtahaecnopeffhaaTTouch
import Derived.Test.YtahaecnopeffhaaMine
import Derived.Deep.QuietTactic
import Derived.BigQuiet
namespace Go.Proofs.Ytahaecnopeffhaa
open Go.RowKit Go.Wire1
open Go.Lib (maxS minS run_max_strs run_min_strs)

def tZ : Tch := ⟨ByteArray.empty, ByteArray.empty, false⟩
theorem tflat_at (L : List Tch) : ∀ (i r : Nat), i < L.length → r < 3 → (L.flatMap tcells)[i * 3 + r]? = (tcells (L.getD i tZ))[r]? := by
  induction L with
  | nil => intro i r h; simp at h
  | cons k ks ih =>
    intro i r hi hr
    have hl : (tcells k).length = 3 := rfl
    rw [List.flatMap_cons]
    cases i with
    | zero => rw [Nat.zero_mul, Nat.zero_add, List.getElem?_append_left (by omega)]; rfl
    | succ i =>
      rw [List.getElem?_append_right (by omega), hl, show (i + 1) * 3 + r - 3 = i * 3 + r by omega, ih i r (by simpa using hi) hr]
      rfl
theorem Tchs.shape {w : World} {B : Nat} {v : Value} {L : List Tch} (h : Tchs w B v L) : ∃ a cap, v = .slice a L.length cap := own_shape h
theorem Tchs.below {w w' : World} {B C : Nat} {v : Value} {L : List Tch} (h : Tchs w B v L) (hb : Below C w w') (hC : w.heap.size ≤ C) : Tchs w' B v L := own_below h hb hC
theorem Tchs.drewN {w : World} {B : Nat} {v : Value} {L : List Tch} (h : Tchs w B v L) (q : Nat) : Tchs (w.drewN q) B v L := h
theorem Tchs.at {w : World} {B : Nat} {a : Option Addr} {n cap : Nat} {L : List Tch} (h : Tchs w B (.slice a n cap) L) {i : Nat} (hi : i < L.length) :
    ∃ b, a = some ⟨b, 0, none⟩ ∧ w.cell? ⟨b, i * 3, none⟩ = some (.string (L.getD i tZ).k) ∧ w.cell? ⟨b, i * 3 + 1, none⟩ = some (.string (L.getD i tZ).e) ∧ w.cell? ⟨b, i * 3 + 2, none⟩ = some (.bool (L.getD i tZ).w) := by
  rcases h.2 with ⟨_, h0⟩ | ⟨b, cap', cur, e, hr⟩
  · omega
  · simp only [Value.slice.injEq] at e
    obtain ⟨rfl, rfl, rfl⟩ := e
    have hc := World.ownsRow.cellAt h
    refine ⟨b, rfl, ?_, ?_, ?_⟩
    · rw [hc _ (by omega)]; exact tflat_at L i 0 hi (by omega)
    · rw [hc _ (by omega)]; exact tflat_at L i 1 hi (by omega)
    · rw [hc _ (by omega)]; exact tflat_at L i 2 hi (by omega)

set_option maxHeartbeats 400000 in
set_option maxRecDepth 100000 in
theorem meet_any (x y : Tch) (w : World) :
    Calls Try.prog 15 #[.agg #[.string x.k, .string x.e, .bool x.w], .agg #[.string y.k, .string y.e, .bool y.w]] w fun e w' => e = .returned (.bool (meetB x y)) ∧ Below w.heap.size w w' := by
  have hmax : ∀ (V : World) ts t, (Builtin.max_ ts t #[.string x.k, .string y.k]).run Try.prog V = .ok (.string (maxS x.k y.k)) V := fun V ts t => run_max_strs V ts t _ _
  have hmin : ∀ (V : World) ts t, (Builtin.min_ ts t #[.string x.e, .string y.e]).run Try.prog V = .ok (.string (minS x.e y.e)) V := fun V ts t => run_min_strs V ts t _ _
  go_enter Try.func15, Try.ntmps15
  go_wp2
  go_ret
  exact ⟨rfl, ((Below.refl _ _).alloc (Nat.le_refl _) _).alloc (by simp) _⟩

/-- A command in a block of its own. -/
def CBox (w : World) (g : Nat) (kind client req : Int) (key key2 val old : ByteArray) (n : Int) : Prop :=
  w.cell? ⟨g, 0, none⟩ = some (.int .i64 kind) ∧ w.cell? ⟨g, 1, none⟩ = some (.int .i64 client) ∧ w.cell? ⟨g, 2, none⟩ = some (.int .i64 req) ∧ w.cell? ⟨g, 3, none⟩ = some (.string key) ∧ w.cell? ⟨g, 4, none⟩ = some (.string key2) ∧ w.cell? ⟨g, 5, none⟩ = some (.string val) ∧ w.cell? ⟨g, 6, none⟩ = some (.string old) ∧ w.cell? ⟨g, 7, none⟩ = some (.int .i64 n)
theorem CBox.below {w w' : World} {g B : Nat} {kind client req : Int} {key key2 val old : ByteArray} {n : Int} (h : CBox w g kind client req key key2 val old n) (hb : Below B w w') (hB : w.heap.size ≤ B) : CBox w' g kind client req key key2 val old n := by
  have hg : g < w.heap.size := cell_lt h.1
  have key : ∀ o, w'.cell? ⟨g, o, none⟩ = w.cell? ⟨g, o, none⟩ := fun o => hb.cell (p := ⟨g, o, none⟩) (by show g < B; omega)
  unfold CBox
  rw [key, key, key, key, key, key, key, key]
  exact h
theorem CBox.drewN {w : World} {g : Nat} {kind client req : Int} {key key2 val old : ByteArray} {n : Int} (h : CBox w g kind client req key key2 val old n) (q : Nat) : CBox (w.drewN q) g kind client req key key2 val old n := h
theorem cbox_new (w : World) (t : TypeId) (kind client req : Int) (key key2 val old : ByteArray) (n : Int) : CBox (w.alloc (.cells #[.int .i64 kind, .int .i64 client, .int .i64 req, .string key, .string key2, .string val, .string old, .int .i64 n] t)) w.heap.size kind client req key key2 val old n := by
  refine ⟨?_, ?_, ?_, ?_, ?_, ?_, ?_, ?_⟩ <;> simp [go_sem]

theorem take_clash {A C : List Tch} {i : Nat} (hi : i < A.length) (h : clashB (A.take i) C = false) (h2 : C.any (hitB (A.getD i tZ)) = false) : clashB (A.take (i + 1)) C = false := by
  unfold clashB at h ⊢
  rw [List.take_succ_eq_append_getElem hi, List.any_append, h]
  rw [List.getD, List.getElem?_eq_getElem hi] at h2
  simpa using h2
theorem take_any {C : List Tch} {j : Nat} {x : Tch} (hj : j < C.length) (h : (C.take j).any (hitB x) = false) (h2 : hitB x (C.getD j tZ) = false) : (C.take (j + 1)).any (hitB x) = false := by
  rw [List.take_succ_eq_append_getElem hj, List.any_append, h]
  rw [List.getD, List.getElem?_eq_getElem hj] at h2
  simpa using h2
theorem hit_clash {A C : List Tch} {i j : Nat} (hi : i < A.length) (hj : j < C.length) (h : hitB (A.getD i tZ) (C.getD j tZ) = true) : clashB A C = true := by
  rw [List.getD, List.getElem?_eq_getElem hi, List.getD, List.getElem?_eq_getElem hj] at h
  unfold clashB
  exact List.any_eq_true.2 ⟨_, List.getElem_mem hi, List.any_eq_true.2 ⟨_, List.getElem_mem hj, h⟩⟩

set_option maxHeartbeats 2000000 in
set_option maxRecDepth 100000 in
theorem conflict_any (kind client req : Int) (key key2 val old : ByteArray) (n : Int) (kind' client' req' : Int) (key' key2' val' old' : ByteArray) (n' : Int) (w : World) (hk : key.size ≤ 140737488351232) (hk2 : key2.size ≤ 140737488351232) (hk' : key'.size ≤ 140737488351232) (hk2' : key2'.size ≤ 140737488351232) :
    Calls Try.prog 7 #[.agg #[.int .i64 kind, .int .i64 client, .int .i64 req, .string key, .string key2, .string val, .string old, .int .i64 n], .agg #[.int .i64 kind', .int .i64 client', .int .i64 req', .string key', .string key2', .string val', .string old', .int .i64 n']] w fun e w' => e = .returned (.bool (clashB (touchL kind key key2) (touchL kind' key' key2'))) ∧ Below w.heap.size w w' := by
  obtain ⟨A, hA⟩ : ∃ A, Hid (touchL kind key key2 = A) := ⟨_, rfl⟩
  obtain ⟨C, hC⟩ : ∃ C, Hid (touchL kind' key' key2' = C) := ⟨_, rfl⟩
  rw [hA.out, hC.out]
  obtain ⟨V, hV⟩ : ∃ V, V = (w.alloc (.cells #[.int .i64 kind, .int .i64 client, .int .i64 req, .string key, .string key2, .string val, .string old, .int .i64 n] 23)).alloc (.cells #[.int .i64 kind', .int .i64 client', .int .i64 req', .string key', .string key2', .string val', .string old', .int .i64 n'] 23) := ⟨_, rfl⟩
  have X1 : Hid (CBox V w.heap.size kind client req key key2 val old n) := by rw [hV]; exact (cbox_new w 23 _ _ _ _ _ _ _ _).below ((Below.refl _ _).alloc (Nat.le_refl _) _) (Nat.le_refl _)
  have hVs : V.heap.size = w.heap.size + 2 := by rw [hV]; simp
  have BV : Hid (Below w.heap.size w V) := by rw [hV]; exact ((Below.refl _ _).alloc (Nat.le_refl _) _).alloc (by simp) _
  go_enter Try.func7, Try.ntmps7
  go_wp2_with fail
  rw [← hV]
  clear hV
  refine (touches_any kind' client' req' key' key2' val' old' n' _ hk' hk2').mono ?_
  rintro e w1 ⟨v1, rfl, T1, hb1⟩
  rw [hC.out] at T1
  obtain ⟨a1, c1, rfl⟩ := T1.shape
  have hs1 := hb1.size
  have HT1 : Hid (Tchs w1 V.heap.size (.slice a1 C.length c1) C) := T1
  have B1 : Hid (Below w.heap.size w w1) := BV.out.trans (hb1.mono (by omega))
  obtain ⟨x0, x1, x2, x3, x4, x5, x6, x7⟩ := X1.out.below hb1 (Nat.le_refl _)
  clear T1 hb1 X1 BV
  go_wp2_with fail
  refine (touches_any kind client req key key2 val old n _ hk hk2).mono ?_
  rintro e w2 ⟨v2, rfl, T2, hb2⟩
  rw [hA.out] at T2
  obtain ⟨a2, c2, rfl⟩ := T2.shape
  have hs2 := hb2.size
  have HT2 : Hid (Tchs w2 w1.heap.size (.slice a2 A.length c2) A) := T2
  have HT1' : Hid (Tchs w2 V.heap.size (.slice a1 C.length c1) C) := HT1.out.below hb2 (Nat.le_refl _)
  have B2 : Hid (Below w.heap.size w w2) := B1.out.trans (hb2.mono (by omega))
  have hle : w.heap.size ≤ w2.heap.size := by omega
  have hla : A.length ≤ 2 := by rw [← hA.out]; exact touchL_len _ _ _
  have hlc : C.length ≤ 2 := by rw [← hC.out]; exact touchL_len _ _ _
  clear T2 hb2 HT1 B1 x0 x1 x2 x3 x4 x5 x6 x7 hs1 hs2 hVs hA hC
  obtain ⟨na, hna⟩ : ∃ na, Hid (A.length = na) := ⟨_, rfl⟩
  obtain ⟨nc, hnc⟩ : ∃ nc, Hid (C.length = nc) := ⟨_, rfl⟩
  rw [hna.out] at HT2 hla
  rw [hnc.out] at HT1' hlc
  rw [hna.out, hnc.out]
  go_wp2_with fail
  go_loopw [15] (fun x wr => ∃ i : Nat, x = .int .i64 (i : Int) ∧ i ≤ na ∧ Hid (clashB (A.take i) C = false) ∧ Hid (Below w2.heap.size w2 wr)) (fun x _ => na - (intOf x).toNat)
  case atStart => exact ⟨0, rfl, by omega, by simp [Hid, clashB], Below.refl _ _⟩
  case round =>
    obtain ⟨i, rfl, hi, HF, HB⟩ := hrel
    have hsr : Hid (w2.heap.size ≤ wr.heap.size) := HB.out.size
    by_cases hlt : i < na
    · obtain ⟨b, rfl, d0, d1, d2⟩ := (HT2.out.below HB.out (Nat.le_refl _)).at (i := i) (by rw [hna.out]; exact hlt)
      obtain ⟨X, hX⟩ : ∃ X, Hid (A.getD i tZ = X) := ⟨_, rfl⟩
      rw [hX.out] at d0 d1 d2
      go_wp2_with fail
      obtain ⟨U, hU⟩ : ∃ U, U = wr.alloc (.cells #[.string X.k, .string X.e, .bool X.w] 31) := ⟨_, rfl⟩
      obtain ⟨gx, hgx⟩ : ∃ gx, gx = wr.heap.size := ⟨_, rfl⟩
      have e0 : U.cell? ⟨gx, 0, none⟩ = some (.string X.k) := by rw [hU, hgx]; simp [go_sem]
      have e1 : U.cell? ⟨gx, 1, none⟩ = some (.string X.e) := by rw [hU, hgx]; simp [go_sem]
      have e2 : U.cell? ⟨gx, 2, none⟩ = some (.bool X.w) := by rw [hU, hgx]; simp [go_sem]
      have HE : Hid (U.cell? ⟨gx, 0, none⟩ = some (.string X.k) ∧ U.cell? ⟨gx, 1, none⟩ = some (.string X.e) ∧ U.cell? ⟨gx, 2, none⟩ = some (.bool X.w)) := ⟨e0, e1, e2⟩
      have HU : Hid (Below w2.heap.size w2 U) := by rw [hU]; exact HB.out.alloc hsr.out _
      rw [← hU, ← hgx]
      clear hU e0 e1 e2 d0 d1 d2 hgx HB hsr
      go_loopw [21] (fun x wr => ∃ j : Nat, x = .int .i64 (j : Int) ∧ j ≤ nc ∧ Hid ((C.take j).any (hitB X) = false) ∧ Hid (Below U.heap.size U wr)) (fun x _ => nc - (intOf x).toNat)
      case atStart => exact ⟨0, rfl, by omega, by simp [Hid], Below.refl _ _⟩
      case round =>
        obtain ⟨j, rfl, hj, HG, HB⟩ := hrel
        have hUs : Hid (w2.heap.size ≤ U.heap.size) := HU.out.size
        have HW : Hid (Below w2.heap.size w2 wr) := HU.out.trans (HB.out.mono hUs.out)
        by_cases hlt2 : j < nc
        · obtain ⟨b2, rfl, d0, d1, d2⟩ := (HT1'.out.below HW.out (Nat.le_refl _)).at (i := j) (by rw [hnc.out]; exact hlt2)
          obtain ⟨Y, hY⟩ : ∃ Y, Hid (C.getD j tZ = Y) := ⟨_, rfl⟩
          rw [hY.out] at d0 d1 d2
          have hg : gx < U.heap.size := cell_lt HE.out.1
          have x0 : wr.cell? ⟨gx, 0, none⟩ = some (.string X.k) := by rw [HB.out.cell (p := ⟨gx, 0, none⟩) hg]; exact HE.out.1
          have x1 : wr.cell? ⟨gx, 1, none⟩ = some (.string X.e) := by rw [HB.out.cell (p := ⟨gx, 1, none⟩) hg]; exact HE.out.2.1
          have x2 : wr.cell? ⟨gx, 2, none⟩ = some (.bool X.w) := by rw [HB.out.cell (p := ⟨gx, 2, none⟩) hg]; exact HE.out.2.2
          have hgw : gx < wr.heap.size := cell_lt x0
          clear hg
          have HWs := HW.out.size
          obtain ⟨xk, xe, xw⟩ := X
          obtain ⟨yk, ye, yw⟩ := Y
          simp only at x0 x1 x2 d0 d1 d2
          have step : ∀ V : World, Hid (Below w2.heap.size w2 V) → Hid (Below wr.heap.size wr V) → Hid (Below U.heap.size U V) := fun V _ h => HB.out.trans (h.out.mono HB.out.size)
          cases hw : (xw || yw) with
          | false =>
            obtain ⟨rfl, rfl⟩ : xw = false ∧ yw = false := by simpa using hw
            have HN : Hid ((C.take (j + 1)).any (hitB ⟨xk, xe, false⟩) = false) := take_any (by rw [hnc.out]; exact hlt2) HG.out (by rw [hY.out]; rfl)
            clear hw
            go_wp2
            go_roundw
            case rel => exact ⟨j + 1, by go_num, by omega, HN, step _ (HW.out.alloc HWs _) ((Below.refl _ _).alloc (Nat.le_refl _) _)⟩
            case measure => simp [intOf]; omega
          | true =>
            have key : ∀ V : World, Below wr.heap.size wr V → Hid (Below w2.heap.size w2 V) := fun V h => HW.out.trans (h.mono HWs)
            have hor : xw = true ∨ (xw = false ∧ yw = true) := by cases xw <;> simp_all
            clear hw
            have HT3 : Hid (hitB (A.getD i tZ) (C.getD j tZ) = meetB ⟨xk, xe, xw⟩ ⟨yk, ye, yw⟩) := by
              rw [hX.out, hY.out]
              rcases hor with rfl | ⟨rfl, rfl⟩ <;> simp [Hid, hitB]
            have HT4 : Hid (hitB ⟨xk, xe, xw⟩ (C.getD j tZ) = meetB ⟨xk, xe, xw⟩ ⟨yk, ye, yw⟩) := by
              rw [hY.out]
              rcases hor with rfl | ⟨rfl, rfl⟩ <;> simp [Hid, hitB]
            have Bn : Hid (Below wr.heap.size wr (wr.alloc (.cells #[.string yk, .string ye, .bool yw] 31))) := (Below.refl _ _).alloc (Nat.le_refl _) _
            rcases hor with rfl | ⟨rfl, rfl⟩
            all_goals
              go_wp2_with fail
              refine (meet_any ⟨xk, xe, _⟩ ⟨yk, ye, _⟩ _).mono ?_
              rintro e w9 ⟨rfl, hb9⟩
              have C9 : Hid (Below wr.heap.size wr w9) := Bn.out.trans (hb9.mono (by simp))
              have B9 : Hid (Below w2.heap.size w2 w9) := key _ C9.out
              clear hb9
              cases hm : meetB ⟨xk, xe, _⟩ ⟨yk, ye, _⟩ with
              | true =>
                have HH : Hid (clashB A C = true) := hit_clash (by rw [hna.out]; exact hlt) (by rw [hnc.out]; exact hlt2) (by rw [HT3.out]; exact hm)
                clear hm
                go_wp2
                go_ret
                exact ⟨by rw [HH.out]; rfl, B2.out.trans (B9.out.mono hle)⟩
              | false =>
                have HN : Hid ((C.take (j + 1)).any _ = false) := take_any (by rw [hnc.out]; exact hlt2) HG.out (by rw [HT4.out]; exact hm)
                clear hm
                go_wp2
                go_roundw
                case rel => exact ⟨j + 1, by go_num, by omega, HN, step _ B9 C9⟩
                case measure => simp [intOf]; omega
        · have HN : Hid (clashB (A.take (i + 1)) C = false) := take_clash (by rw [hna.out]; exact hlt) HF.out (by rw [hX.out]; have := HG.out; rwa [List.take_of_length_le (by rw [hnc.out]; omega)] at this)
          go_wp2
          go_roundw
          case rel => exact ⟨i + 1, by go_num, by omega, HN, HW⟩
          case measure => simp [intOf]; omega
    · go_wp2
      go_ret
      exact ⟨by have := HF.out; rw [List.take_of_length_le (by rw [hna.out]; omega)] at this; rw [this]; rfl, B2.out.trans (HB.out.mono hle)⟩
end Go.Proofs.Ytahaecnopeffhaa
