import Derived.Test.YtppocmgcfeelhaaGreatDoorJ26
set_option maxHeartbeats 4000000
set_option maxRecDepth 100000
namespace Go.Proofs.YtppocmgcfeelhaaGreatDoor
open Go.RowKit Go.Wire1
def orL : List Int → Int
 | [] => 0
 | x :: r => if x = 0 then orL r else x
theorem orL_zero {L : List Int} (h : ∀ j, j < L.length → L.getD j 0 = 0) : orL L = 0 := by
 induction L with
 | nil => rfl
 | cons x r ih =>
  have h0 : x = 0 := h 0 (by simp)
  rw [orL, if_pos h0]
  exact ih (fun j hj => h (j + 1) (by simpa using hj))
theorem orL_at {L : List Int} {k : Nat} (hk : k < L.length) (h : ∀ j, j < k → L.getD j 0 = 0) (hn : L.getD k 0 ≠ 0) : orL L = L.getD k 0 := by
 induction L generalizing k with
 | nil => simp at hk
 | cons x r ih =>
  cases k with
  | zero =>
   have : x ≠ 0 := hn
   rw [orL, if_neg this]; rfl
  | succ k =>
   have h0 : x = 0 := h 0 (by omega)
   rw [orL, if_pos h0]
   exact ih (by simpa using hk) (fun j hj => h (j + 1) (by omega)) hn
theorem or_any (g : Nat) (L : List Int) (k : Nat) (hk : L.length = k) (hk9 : k ≤ 9) (w : World) (h : ∀ j, j < k → w.cell? ⟨g, j, none⟩ = some (.int .i64 (L.getD j 0))) :
  Calls Tryz.prog 142 #[.slice (some ⟨g, 0, none⟩) k k] w fun e w' => e = .returned (.int .i64 (orL L)) ∧ w = w' := by
 have HH := hide h
 have HK := hide hk
 clear h hk
 go_enter Tryz.func142, Tryz.ntmps142
 go_wp2
 go_loopw [8] (fun i wr => ∃ j : Nat, i = .int .i64 j ∧ j ≤ k ∧ Hid (∀ t, t < j → L.getD t 0 = 0) ∧ w = wr) (fun i _ => k - (intOf i).toNat)
 case atStart => exact ⟨0, rfl, by omega, (fun t ht => by omega), rfl⟩
 case round =>
  obtain ⟨j, rfl, hj, HZ, rfl⟩ := hrel
  by_cases hlt : j < k
  ·have cc := HH.out j hlt
   by_cases hz : L.getD j 0 = 0
   ·have HZ2 : Hid (∀ t, t < j + 1 → L.getD t 0 = 0) := by
     show ∀ t, _
     intro t ht
     rcases Nat.lt_or_ge t j with h | h
     ·exact HZ.out t h
     ·obtain rfl : t = j := by omega
      exact hz
    rw [hz] at cc
    clear hz HZ
    go_wp2
    go_roundw
    case rel => exact ⟨j + 1, by go_num, by omega, HZ2, by first | rfl | trivial⟩
    case measure => simp [intOf]; omega
   ·have E : Hid (orL L = L.getD j 0) := orL_at (by rw [HK.out]; exact hlt) HZ.out hz
    have hne : (L.getD j 0 != 0) = true := by rw [bne_iff_ne]; exact hz
    generalize L.getD j 0 = x at *
    clear hz HZ
    go_wp2
    go_ret
    exact ⟨by rw [E.out]; rfl, rfl⟩
  ·obtain rfl : j = k := by omega
   have E : Hid (orL L = 0) := orL_zero (by rw [HK.out]; exact HZ.out)
   clear HZ
   go_wp2
   go_ret
   exact ⟨by rw [E.out]; rfl, rfl⟩
theorem Blk.sub {w w' : World} {q : Nat} {cs : List Value} (h : Blk w q cs) (hb : Below w.heap.size w w') (o : Nat) (ds : List Value) (hd : (cs.drop o).take ds.length = ds) : w'.rangeAt q o ds := fun j v hj => by
 have h1 := (h.on hb).cell (o + j) v (by
  rw [← hd] at hj
  by_cases hl : j < ds.length
  ·rw [List.getElem?_take_of_lt hl, List.getElem?_drop] at hj; exact hj
  ·rw [List.getElem?_eq_none (by rw [List.length_take]; omega)] at hj; cases hj)
 exact h1
theorem Blk.c1 {w w' : World} {q : Nat} {cs : List Value} (h : Blk w q cs) (hb : Below w.heap.size w w') (j : Nat) (v : Value) (hj : cs[j]? = some v) : w'.cell? ⟨q, j, none⟩ = some v := (h.on hb).cell j v hj
theorem belX (X : World) : Below X.heap.size X X.drew := ⟨rfl, rfl, rfl, Nat.le_refl _, fun _ _ => rfl⟩
theorem row_cells (W : World) (L : List Int) (T : TypeId) (k : Nat) (hk : L.length = k) : ∀ j, j < k → (W.alloc (.cells (L.map (Value.int .i64)).toArray T)).cell? ⟨W.heap.size, j, none⟩ = some (.int .i64 (L.getD j 0)) := by
 intro j hj
 rw [World.cell?_alloc_at _ _ _ _ rfl]
 simp [List.getD, List.getElem?_eq_getElem (show j < L.length by omega)]
open Go.RowKit Go.Wire1
theorem ver_cases {v : Int} (h : isVer v = true) : v = 1 ∨ v = 2 := by simpa [isVer] using h
theorem kd_lt {v kind : Int} (h : isKd v kind = true) : 0 ≤ kind ∧ kind < 9 := by
 simp only [isKd, Bool.and_eq_true, decide_eq_true_eq] at h
 exact ⟨h.1, h.2.1⟩
theorem check_any (v : Int) (c : Cm) (w : World) (hK : Knd w) (hk : c.key.size ≤ 140737488351232) (hk2 : c.key2.size ≤ 140737488351232) :
  Calls Tryz.prog 147 #[.int .i64 v, .agg #[.int .i64 c.kind, .int .i64 c.client, .int .i64 c.req, .string c.key, .string c.key2, .string c.val, .string c.old, .int .i64 c.n]] w fun e w' => e = .returned (.int .i64 (chk v c : Nat)) ∧ Below w.heap.size w w' := by
 obtain ⟨V, hV⟩ : ∃ V, V = w.alloc (.cells #[.int .i64 c.kind, .int .i64 c.client, .int .i64 c.req, .string c.key, .string c.key2, .string c.val, .string c.old, .int .i64 c.n] 27) := ⟨_, rfl⟩
 have X : Hid (CBox V w.heap.size c.kind c.client c.req c.key c.key2 c.val c.old c.n) := by rw [hV]; exact cbox_new w 27 _ _ _ _ _ _ _ _
 have BV : Hid (Below w.heap.size w V) := by rw [hV]; exact (Below.refl _ _).alloc zN _
 have hVs : w.heap.size ≤ V.heap.size := BV.out.size
 have HK : Hid (Knd V) := hK.below BV.out zN
 have x0 := X.out.1
 cases h1 : isVer v with
 | false =>
  have HR : Hid (chk v c = 2) := by simp [Hid, chk, h1]
  go_enter Tryz.func147, Tryz.ntmps147
  go_wp2_with fail
  rw [← hV]
  refine (isVersion_any v _).mono ?_
  rintro e w1 ⟨rfl, rfl⟩
  rw [h1]
  clear h1 hV x0
  go_wp2
  go_ret
  exact ⟨by rw [HR.out]; rfl, BV.out⟩
 | true =>
  have HV2 := hide (ver_cases h1)
  cases h2 : isKd v c.kind with
  | false =>
   have HR : Hid (chk v c = 41) := by simp [Hid, chk, h1, h2]
   go_enter Tryz.func147, Tryz.ntmps147
   go_wp2_with fail
   rw [← hV]
   refine (isVersion_any v _).mono ?_
   rintro e w1 ⟨rfl, rfl⟩
   rw [h1]
   clear h1 hV
   go_wp2_with fail
   refine (isKind_any v c.kind _ HK.out).mono ?_
   rintro e w1 ⟨rfl, rfl⟩
   rw [h2]
   clear h2 x0
   go_wp2
   go_ret
   exact ⟨by rw [HR.out]; rfl, BV.out⟩
  | true =>
   have HR : Hid (chk v c = firstF v c 7 0) := by simp [Hid, chk, h1, h2]
   obtain ⟨k0, k9⟩ := kd_lt h2
   obtain ⟨k, hkk⟩ := zI k0
   have hk9 : k < 9 := by omega
   obtain ⟨hF, _⟩ := HK.out k hk9
   have hFl := fields_lt k
   have HH : Hid (∀ f, hasF c.kind f = (fieldsL.getD k 0).testBit f) := fun f => by unfold hasF; rw [hkk]; rfl
   generalize fieldsL.getD k 0 = F at *
   have hkk' : Hid (c.kind = (k : Int)) := hkk
   clear hkk k0 k9
   go_enter Tryz.func147, Tryz.ntmps147
   go_wp2_with fail
   rw [← hV]
   refine (isVersion_any v _).mono ?_
   rintro e w1 ⟨rfl, rfl⟩
   rw [h1]
   clear h1 hV
   go_wp2_with fail
   refine (isKind_any v c.kind _ HK.out).mono ?_
   rintro e w1 ⟨rfl, rfl⟩
   rw [h2]
   clear h2
   rw [hkk'.out] at x0
   go_wp2_with fail
   go_loopw [6] (fun x wr => ∃ f : Nat, x = .int .i64 (bitF f) ∧ f ≤ 7 ∧ Hid (firstF v c 7 0 = firstF v c (7 - f) f) ∧ Hid (Below V.heap.size V wr)) (fun x _ => 200 - (intOf x).toNat)
   case atStart => exact ⟨0, rfl, by omega, rfl, Below.refl _ _⟩
   case round =>
    obtain ⟨f, rfl, hf, HF, HB⟩ := hrel
    have hws := HB.out.size
    by_cases hf7 : f < 7
    ·have hy : bitF f ≤ 64 ∧ 1 ≤ bitF f ∧ bitF (f + 1) = bitF f * 2 := by
      rcases (by omega : f = 0 ∨ f = 1 ∨ f = 2 ∨ f = 3 ∨ f = 4 ∨ f = 5 ∨ f = 6) with rfl | rfl | rfl | rfl | rfl | rfl | rfl <;> decide
     have hbt := bits_has F f hFl hf7
     rw [← HH.out f] at hbt
     obtain ⟨x0', x1, x2, x3, x4, x5, x6, x7⟩ := X.out.below HB.out zN
     obtain ⟨y, hyy⟩ : ∃ y, Hid (bitF f = y) := ⟨_, rfl⟩
     have hy2 := hide hy.2.2
     obtain ⟨hy64, hy1, _⟩ := hy
     rw [hyy.out] at hbt hy64 hy1 ⊢
     have hne : (y == 0) = false := by rw [beq_eq_false_iff_ne]; omega
     cases hh : hasF c.kind f with
     | true =>
      rw [hh, if_pos rfl] at hbt
      go_wp2_with fail
      rw [← hyy.out]
      refine (isAllowed_any v c f _ hf7 hk hk2).mono ?_
      rintro e w5 ⟨rfl, hb5⟩
      rw [hyy.out]
      have B5 : Hid (Below V.heap.size V w5) := HB.out.trans (hb5.mono hws)
      cases ha : allowF v c f with
      | true =>
       have HN := hide (firstF_next hf7 HF.out (by simp [faultF, hh, ha]))
       clear hb5 hh ha
       go_wp2
       go_roundw
       case rel => exact ⟨f + 1, by rw [hy2.out, hyy.out], by omega, HN, B5⟩
       case measure => simp [intOf]; omega
      | false =>
       by_cases hf6 : f = 6
       ·subst hf6; simp [allowF] at ha
       ·have HN : Hid (chk v c = errF f) := by
         rw [HR.out, firstF_hit hf7 HF.out (by simp [faultF, hh, ha, errF, hf6])]
         simp [Hid, faultF, hh, ha]
        clear hb5 hh ha
        go_wp2_with fail
        rw [← hyy.out]
        refine (faultOf_any f _ hf7).mono ?_
        rintro e w6 ⟨rfl, rfl⟩
        go_wp2
        go_ret
        exact ⟨by rw [HN.out]; rfl, BV.out.trans (B5.out.mono hVs)⟩
     | false =>
      rw [hh] at hbt
      simp only [Bool.false_eq_true, if_false] at hbt
      go_wp2_with fail
      rw [← hyy.out]
      refine (isZero_any c f _ hf7).mono ?_
      rintro e w5 ⟨rfl, hb5⟩
      rw [hyy.out]
      have B5 : Hid (Below V.heap.size V w5) := HB.out.trans (hb5.mono hws)
      cases ha : zeroF c f with
      | true =>
       have HN := hide (firstF_next hf7 HF.out (by simp [faultF, hh, ha]))
       clear hb5 hh ha
       go_wp2
       go_roundw
       case rel => exact ⟨f + 1, by rw [hy2.out, hyy.out], by omega, HN, B5⟩
       case measure => simp [intOf]; omega
      | false =>
       have HN : Hid (chk v c = 48) := by
        rw [HR.out, firstF_hit hf7 HF.out (by simp [faultF, hh, ha])]
        simp [Hid, faultF, hh, ha]
       clear hb5 hh ha
       go_wp2
       go_ret
       exact ⟨by rw [HN.out]; rfl, BV.out.trans (B5.out.mono hVs)⟩
    ·obtain rfl : f = 7 := by omega
     rw [show bitF 7 = 128 from rfl]
     have HN : Hid (chk v c = 0) := by rw [HR.out, HF.out]; rfl
     go_wp2
     go_ret
     exact ⟨by rw [HN.out]; rfl, BV.out.trans (HB.out.mono hVs)⟩
end Go.Proofs.YtppocmgcfeelhaaGreatDoor
