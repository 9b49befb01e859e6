import Derived.Test.YtibfdoggolkljaaGreatDoorJ29
set_option maxHeartbeats 4000000
set_option maxRecDepth 100000
namespace Go.Proofs.YtibfdoggolkljaaGreatDoor
open Go.RowKit Go.Wire1
theorem extra_two (mk mrow mnum mx my mp mq mst : Int) (msm : Bool) (mc : Cm) (msq : Int) (mua : Option Addr) (muk muc : Nat) (ok orow onum ox oy op oq ost : Int) (osm : Bool) (oc : Cm) (osq : Int) (oua : Option Addr) (ouk ouc : Nat) (SV : Value) (w : World) (eb : Bool) (HEB : Hid (decide (¬ (mx = ox ∧ my = oy ∧ mp = op ∧ mq = oq ∧ mst = ost ∧ msm = osm ∧ mc.kind = oc.kind ∧ mc.client = oc.client ∧ mc.req = oc.req ∧ mc.key.toList = oc.key.toList ∧ mc.key2.toList = oc.key2.toList ∧ mc.val.toList = oc.val.toList ∧ mc.old.toList = oc.old.toList ∧ mc.n = oc.n ∧ msq = osq ∧ muk = ouk)) = eb)) (_hmk : muk ≤ 9223372036854775807) (_hok : ouk ≤ 9223372036854775807)
  (MO : Hid (∀ W, Calls Tryz.prog 22 #[SV] W fun r w' => r = .returned (.agg #[.int .i64 ok, .int .i64 orow, .int .i64 onum, .int .i64 ox, .int .i64 oy, .int .i64 op, .int .i64 oq, .int .i64 ost, .bool osm, .int .i64 oc.kind, .int .i64 oc.client, .int .i64 oc.req, .string oc.key, .string oc.key2, .string oc.val, .string oc.old, .int .i64 oc.n, .int .i64 osq, .slice oua ouk ouc]) ∧ Below W.heap.size W w')) :
  Calls Tryz.prog 24 #[.agg #[.int .i64 mk, .int .i64 mrow, .int .i64 mnum, .int .i64 mx, .int .i64 my, .int .i64 mp, .int .i64 mq, .int .i64 mst, .bool msm, .int .i64 mc.kind, .int .i64 mc.client, .int .i64 mc.req, .string mc.key, .string mc.key2, .string mc.val, .string mc.old, .int .i64 mc.n, .int .i64 msq, .slice mua muk muc], SV] w fun r w' => r = .returned (.bool eb) ∧ Below w.heap.size w w' := by
 obtain ⟨X, hX, QX⟩ := zX w 30 [.int .i64 mk, .int .i64 mrow, .int .i64 mnum, .int .i64 mx, .int .i64 my, .int .i64 mp, .int .i64 mq, .int .i64 mst, .bool msm, .int .i64 mc.kind, .int .i64 mc.client, .int .i64 mc.req, .string mc.key, .string mc.key2, .string mc.val, .string mc.old, .int .i64 mc.n, .int .i64 msq, .slice mua muk muc]
 have BX : Hid (Below w.heap.size w X) := by rw [hX]; exact (Below.refl _ w).alloc zN _
 go_enter Tryz.func24, Tryz.ntmps24
 go_upto_region 1 with fail
 rw [← hX]
 clear hX
 go_wp2_with fail
 refine (MO.out X).mono ?_
 rintro r w1 ⟨rfl, b1⟩
 have QA := hide (QX.out.on b1)
 have B1 : Hid (Below w.heap.size w w1) := BX.out.trans (b1.mono BX.out.size)
 have QB : Hid (Blk ((w1.alloc (.cells #[.int .i64 0, .int .i64 0, .int .i64 0, .int .i64 0, .int .i64 0, .int .i64 0, .int .i64 0, .int .i64 0, .bool false, .int .i64 0, .int .i64 0, .int .i64 0, .string ⟨#[]⟩, .string ⟨#[]⟩, .string ⟨#[]⟩, .string ⟨#[]⟩, .int .i64 0, .int .i64 0, .slice none 0 0] 30)).setCells w1.heap.size 0 [.int .i64 ok, .int .i64 orow, .int .i64 onum, .int .i64 ox, .int .i64 oy, .int .i64 op, .int .i64 oq, .int .i64 ost, .bool osm, .int .i64 oc.kind, .int .i64 oc.client, .int .i64 oc.req, .string oc.key, .string oc.key2, .string oc.val, .string oc.old, .int .i64 oc.n, .int .i64 osq, .slice oua ouk ouc]) w1.heap.size [.int .i64 ok, .int .i64 orow, .int .i64 onum, .int .i64 ox, .int .i64 oy, .int .i64 op, .int .i64 oq, .int .i64 ost, .bool osm, .int .i64 oc.kind, .int .i64 oc.client, .int .i64 oc.req, .string oc.key, .string oc.key2, .string oc.val, .string oc.old, .int .i64 oc.n, .int .i64 osq, .slice oua ouk ouc]) := blk_cells (blk_new w1 30 [.int .i64 0, .int .i64 0, .int .i64 0, .int .i64 0, .int .i64 0, .int .i64 0, .int .i64 0, .int .i64 0, .bool false, .int .i64 0, .int .i64 0, .int .i64 0, .string ⟨#[]⟩, .string ⟨#[]⟩, .string ⟨#[]⟩, .string ⟨#[]⟩, .int .i64 0, .int .i64 0, .slice none 0 0]) rfl
 have BY : Hid (Below w1.heap.size w1 ((w1.alloc (.cells #[.int .i64 0, .int .i64 0, .int .i64 0, .int .i64 0, .int .i64 0, .int .i64 0, .int .i64 0, .int .i64 0, .bool false, .int .i64 0, .int .i64 0, .int .i64 0, .string ⟨#[]⟩, .string ⟨#[]⟩, .string ⟨#[]⟩, .string ⟨#[]⟩, .int .i64 0, .int .i64 0, .slice none 0 0] 30)).setCells w1.heap.size 0 [.int .i64 ok, .int .i64 orow, .int .i64 onum, .int .i64 ox, .int .i64 oy, .int .i64 op, .int .i64 oq, .int .i64 ost, .bool osm, .int .i64 oc.kind, .int .i64 oc.client, .int .i64 oc.req, .string oc.key, .string oc.key2, .string oc.val, .string oc.old, .int .i64 oc.n, .int .i64 osq, .slice oua ouk ouc])) := below_cells zN _ _ _ ((Below.refl _ _).alloc zN _)
 have TZ : Hid ((w1.alloc (.cells #[.int .i64 0, .int .i64 0, .int .i64 0, .int .i64 0, .int .i64 0, .int .i64 0, .int .i64 0, .int .i64 0, .bool false, .int .i64 0, .int .i64 0, .int .i64 0, .string ⟨#[]⟩, .string ⟨#[]⟩, .string ⟨#[]⟩, .string ⟨#[]⟩, .int .i64 0, .int .i64 0, .slice none 0 0] 30)).there w1.heap.size 0 19) := (blk_new w1 30 [.int .i64 0, .int .i64 0, .int .i64 0, .int .i64 0, .int .i64 0, .int .i64 0, .int .i64 0, .int .i64 0, .bool false, .int .i64 0, .int .i64 0, .int .i64 0, .string ⟨#[]⟩, .string ⟨#[]⟩, .string ⟨#[]⟩, .string ⟨#[]⟩, .int .i64 0, .int .i64 0, .slice none 0 0]).there
 have QA2 := hide (QA.out.on BY.out)
 have BW : Hid (Below w.heap.size w ((w1.alloc (.cells #[.int .i64 0, .int .i64 0, .int .i64 0, .int .i64 0, .int .i64 0, .int .i64 0, .int .i64 0, .int .i64 0, .bool false, .int .i64 0, .int .i64 0, .int .i64 0, .string ⟨#[]⟩, .string ⟨#[]⟩, .string ⟨#[]⟩, .string ⟨#[]⟩, .int .i64 0, .int .i64 0, .slice none 0 0] 30)).setCells w1.heap.size 0 [.int .i64 ok, .int .i64 orow, .int .i64 onum, .int .i64 ox, .int .i64 oy, .int .i64 op, .int .i64 oq, .int .i64 ost, .bool osm, .int .i64 oc.kind, .int .i64 oc.client, .int .i64 oc.req, .string oc.key, .string oc.key2, .string oc.val, .string oc.old, .int .i64 oc.n, .int .i64 osq, .slice oua ouk ouc])) := B1.out.trans (BY.out.mono B1.out.size)
 clear b1 QX BX QA B1 BY
 go_upto_region 2 with (first | (refine wpList_store_mid rfl 30 _ _ rfl w1.heap.size 0 #[.int .i64 ok, .int .i64 orow, .int .i64 onum, .int .i64 ox, .int .i64 oy, .int .i64 op, .int .i64 oq, .int .i64 ost, .bool osm, .int .i64 oc.kind, .int .i64 oc.client, .int .i64 oc.req, .string oc.key, .string oc.key2, .string oc.val, .string oc.old, .int .i64 oc.n, .int .i64 osq, .slice oua ouk ouc] rfl rfl TZ.out (by kernel_rfl) (by kernel_rfl) ?_))
 clear TZ
 generalize (w1.alloc (.cells #[.int .i64 0, .int .i64 0, .int .i64 0, .int .i64 0, .int .i64 0, .int .i64 0, .int .i64 0, .int .i64 0, .bool false, .int .i64 0, .int .i64 0, .int .i64 0, .string ⟨#[]⟩, .string ⟨#[]⟩, .string ⟨#[]⟩, .string ⟨#[]⟩, .int .i64 0, .int .i64 0, .slice none 0 0] 30)).setCells w1.heap.size 0 [.int .i64 ok, .int .i64 orow, .int .i64 onum, .int .i64 ox, .int .i64 oy, .int .i64 op, .int .i64 oq, .int .i64 ost, .bool osm, .int .i64 oc.kind, .int .i64 oc.client, .int .i64 oc.req, .string oc.key, .string oc.key2, .string oc.val, .string oc.old, .int .i64 oc.n, .int .i64 osq, .slice oua ouk ouc] = Y at *
 generalize (Value.agg #[.int .i64 ok, .int .i64 orow, .int .i64 onum, .int .i64 ox, .int .i64 oy, .int .i64 op, .int .i64 oq, .int .i64 ost, .bool osm, .int .i64 oc.kind, .int .i64 oc.client, .int .i64 oc.req, .string oc.key, .string oc.key2, .string oc.val, .string oc.old, .int .i64 oc.n, .int .i64 osq, .slice oua ouk ouc]) = AB
 generalize w1.heap.size = Q at *
 have m3 := QA2.out.cell 3 _ rfl
 have o3 := QB.out.cell 3 _ rfl
 have m4 := QA2.out.cell 4 _ rfl
 have o4 := QB.out.cell 4 _ rfl
 have m5 := QA2.out.cell 5 _ rfl
 have o5 := QB.out.cell 5 _ rfl
 have m6 := QA2.out.cell 6 _ rfl
 have o6 := QB.out.cell 6 _ rfl
 have m7 := QA2.out.cell 7 _ rfl
 have o7 := QB.out.cell 7 _ rfl
 have m8 := QA2.out.cell 8 _ rfl
 have o8 := QB.out.cell 8 _ rfl
 have m9 := QA2.out.cell 9 _ rfl
 have o9 := QB.out.cell 9 _ rfl
 have m10 := QA2.out.cell 10 _ rfl
 have o10 := QB.out.cell 10 _ rfl
 have m11 := QA2.out.cell 11 _ rfl
 have o11 := QB.out.cell 11 _ rfl
 have m12 := QA2.out.cell 12 _ rfl
 have o12 := QB.out.cell 12 _ rfl
 have m13 := QA2.out.cell 13 _ rfl
 have o13 := QB.out.cell 13 _ rfl
 have m14 := QA2.out.cell 14 _ rfl
 have o14 := QB.out.cell 14 _ rfl
 have m15 := QA2.out.cell 15 _ rfl
 have o15 := QB.out.cell 15 _ rfl
 have m16 := QA2.out.cell 16 _ rfl
 have o16 := QB.out.cell 16 _ rfl
 have m17 := QA2.out.cell 17 _ rfl
 have o17 := QB.out.cell 17 _ rfl
 have m18 := QA2.out.cell 18 _ rfl
 have o18 := QB.out.cell 18 _ rfl
 refine wp_region_lit ?_
 go_wp2_with fail
 all_goals go_ret
 all_goals refine ⟨?_, BW.out⟩
 all_goals rw [← HEB.out]
 all_goals clear m3 o3 m4 o4 m5 o5 m6 o6 m7 o7 m8 o8 m9 o9 m10 o10 m11 o11 m12 o12 m13 o13 m14 o14 m15 o15 m16 o16 m17 o17 m18 o18 QA2 QB MO BW HEB
 all_goals simp_all
 by_cases hkk : muk = ouk
 ·simp [hkk]
 ·have h9 : ((muk : Int) != (ouk : Int)) = true := by rw [bne_iff_ne]; omega
  simp [hkk, h9]
def extraM (m : Ms) : Bool := decide (¬ (m.x = (only m (shK m)).x ∧ m.y = (only m (shK m)).y ∧ m.p = (only m (shK m)).p ∧ m.q = (only m (shK m)).q ∧ m.st = (only m (shK m)).st ∧ m.sm = (only m (shK m)).sm ∧ m.c.kind = (only m (shK m)).c.kind ∧ m.c.client = (only m (shK m)).c.client ∧ m.c.req = (only m (shK m)).c.req ∧ m.c.key.toList = (only m (shK m)).c.key.toList ∧ m.c.key2.toList = (only m (shK m)).c.key2.toList ∧ m.c.val.toList = (only m (shK m)).c.val.toList ∧ m.c.old.toList = (only m (shK m)).c.old.toList ∧ m.c.n = (only m (shK m)).c.n ∧ m.sq = (only m (shK m)).sq ∧ m.dl.length = (only m (shK m)).dl.length))
theorem only_dl (m : Ms) (k : Nat) : (only m k).dl = if hasD k then m.dl else [] := by
 match k with
 | 0 => rfl
 | 1 => rfl
 | 2 => rfl
 | 3 => rfl
 | 4 => rfl
 | 5 => rfl
 | 6 => rfl
 | 7 => rfl
 | k + 8 => rfl
theorem hasExtra_any (m : Ms) (ua : Option Addr) (uk uc : Nat) (w : World) (hu : uk = m.dl.length) (hb : uk ≤ 9223372036854775807) :
  Calls Tryz.prog 24 #[.agg (mgc m (.slice ua uk uc)).toArray, shV m (.slice ua uk uc)] w fun r w' => r = .returned (.bool (extraM m)) ∧ Below w.heap.size w w' := by
 obtain ⟨oa, ok, oc, hO, hk⟩ : ∃ oa ok oc, onlyU (.slice ua uk uc) (shK m) = .slice oa ok oc ∧ ok = (only m (shK m)).dl.length := by
  rw [only_dl]
  unfold onlyU
  cases hasD (shK m) with
  | true => exact ⟨_, _, _, rfl, hu⟩
  | false => exact ⟨_, _, _, rfl, rfl⟩
 have hob : ok ≤ 9223372036854775807 := by
  rw [hk, only_dl]
  split
  ·omega
  ·exact Nat.zero_le _
 have MO := fun W => msgOf_any m (.slice ua uk uc) (fun _ => ⟨ua, uk, uc, rfl⟩) W
 rw [hO] at MO
 obtain ⟨k, row, num, x, y, p, q, st, sm, c, sq, dl⟩ := m
 refine extra_two k row num x y p q st sm c sq ua uk uc _ _ _ _ _ _ _ _ _ _ _ oa ok oc _ w _ ?_ hb hob MO
 unfold extraM
 rw [hu, hk]
 rfl
open Go.RowKit Go.Wire1
def orL : List Int → Int
 | [] => 0
 | x :: r => if x = 0 then orL r else x
theorem orL_zero {L : List Int} (h : ∀ j, j < L.length → L.getD j 0 = 0) : orL L = 0 := by
 induction L with
 | nil => rfl
 | cons x r ih =>
  have h0 : x = 0 := h 0 (by simp)
  rw [orL, if_pos h0]
  exact ih (fun j hj => h (j + 1) (by simpa using hj))
theorem orL_at {L : List Int} {k : Nat} (hk : k < L.length) (h : ∀ j, j < k → L.getD j 0 = 0) (hn : L.getD k 0 ≠ 0) : orL L = L.getD k 0 := by
 induction L generalizing k with
 | nil => simp at hk
 | cons x r ih =>
  cases k with
  | zero =>
   have : x ≠ 0 := hn
   rw [orL, if_neg this]; rfl
  | succ k =>
   have h0 : x = 0 := h 0 (by omega)
   rw [orL, if_pos h0]
   exact ih (by simpa using hk) (fun j hj => h (j + 1) (by omega)) hn
theorem or_any (g : Nat) (L : List Int) (k : Nat) (hk : L.length = k) (hk9 : k ≤ 9) (w : World) (h : ∀ j, j < k → w.cell? ⟨g, j, none⟩ = some (.int .i64 (L.getD j 0))) :
  Calls Tryz.prog 138 #[.slice (some ⟨g, 0, none⟩) k k] w fun e w' => e = .returned (.int .i64 (orL L)) ∧ w = w' := by
 have HH := hide h
 have HK := hide hk
 clear h hk
 go_enter Tryz.func138, Tryz.ntmps138
 go_wp2
 go_loopw [8] (fun i wr => ∃ j : Nat, i = .int .i64 j ∧ j ≤ k ∧ Hid (∀ t, t < j → L.getD t 0 = 0) ∧ w = wr) (fun i _ => k - (intOf i).toNat)
 case atStart => exact ⟨0, rfl, by omega, (fun t ht => by omega), rfl⟩
 case round =>
  obtain ⟨j, rfl, hj, HZ, rfl⟩ := hrel
  by_cases hlt : j < k
  ·have cc := HH.out j hlt
   by_cases hz : L.getD j 0 = 0
   ·have HZ2 : Hid (∀ t, t < j + 1 → L.getD t 0 = 0) := by
     show ∀ t, _
     intro t ht
     rcases Nat.lt_or_ge t j with h | h
     ·exact HZ.out t h
     ·obtain rfl : t = j := by omega
      exact hz
    rw [hz] at cc
    clear hz HZ
    go_wp2
    go_roundw
    case rel => exact ⟨j + 1, by go_num, by omega, HZ2, by first | rfl | trivial⟩
    case measure => simp [intOf]; omega
   ·have E : Hid (orL L = L.getD j 0) := orL_at (by rw [HK.out]; exact hlt) HZ.out hz
    have hne : (L.getD j 0 != 0) = true := by rw [bne_iff_ne]; exact hz
    generalize L.getD j 0 = x at *
    clear hz HZ
    go_wp2
    go_ret
    exact ⟨by rw [E.out]; rfl, rfl⟩
  ·obtain rfl : j = k := by omega
   have E : Hid (orL L = 0) := orL_zero (by rw [HK.out]; exact HZ.out)
   clear HZ
   go_wp2
   go_ret
   exact ⟨by rw [E.out]; rfl, rfl⟩
theorem Blk.sub {w w' : World} {q : Nat} {cs : List Value} (h : Blk w q cs) (hb : Below w.heap.size w w') (o : Nat) (ds : List Value) (hd : (cs.drop o).take ds.length = ds) : w'.rangeAt q o ds := fun j v hj => by
 have h1 := (h.on hb).cell (o + j) v (by
  rw [← hd] at hj
  by_cases hl : j < ds.length
  ·rw [List.getElem?_take_of_lt hl, List.getElem?_drop] at hj; exact hj
  ·rw [List.getElem?_eq_none (by rw [List.length_take]; omega)] at hj; cases hj)
 exact h1
theorem Blk.c1 {w w' : World} {q : Nat} {cs : List Value} (h : Blk w q cs) (hb : Below w.heap.size w w') (j : Nat) (v : Value) (hj : cs[j]? = some v) : w'.cell? ⟨q, j, none⟩ = some v := (h.on hb).cell j v hj
theorem belX (X : World) : Below X.heap.size X X.drew := ⟨rfl, rfl, rfl, Nat.le_refl _, fun _ _ => rfl⟩
theorem row_cells (W : World) (L : List Int) (T : TypeId) (k : Nat) (hk : L.length = k) : ∀ j, j < k → (W.alloc (.cells (L.map (Value.int .i64)).toArray T)).cell? ⟨W.heap.size, j, none⟩ = some (.int .i64 (L.getD j 0)) := by
 intro j hj
 rw [World.cell?_alloc_at _ _ _ _ rfl]
 simp [List.getD, List.getElem?_eq_getElem (show j < L.length by omega)]
open Go.RowKit Go.Wire1
theorem ver_cases {v : Int} (h : isVer v = true) : v = 1 ∨ v = 2 := by simpa [isVer] using h
theorem kd_lt {v kind : Int} (h : isKd v kind = true) : 0 ≤ kind ∧ kind < 9 := by
 simp only [isKd, Bool.and_eq_true, decide_eq_true_eq] at h
 exact ⟨h.1, h.2.1⟩
theorem check_any (v : Int) (c : Cm) (w : World) (hK : Knd w) (hk : c.key.size ≤ 140737488351232) (hk2 : c.key2.size ≤ 140737488351232) :
  Calls Tryz.prog 143 #[.int .i64 v, .agg #[.int .i64 c.kind, .int .i64 c.client, .int .i64 c.req, .string c.key, .string c.key2, .string c.val, .string c.old, .int .i64 c.n]] w fun e w' => e = .returned (.int .i64 (chk v c : Nat)) ∧ Below w.heap.size w w' := by
 obtain ⟨V, hV⟩ : ∃ V, V = w.alloc (.cells #[.int .i64 c.kind, .int .i64 c.client, .int .i64 c.req, .string c.key, .string c.key2, .string c.val, .string c.old, .int .i64 c.n] 27) := ⟨_, rfl⟩
 have X : Hid (CBox V w.heap.size c.kind c.client c.req c.key c.key2 c.val c.old c.n) := by rw [hV]; exact cbox_new w 27 _ _ _ _ _ _ _ _
 have BV : Hid (Below w.heap.size w V) := by rw [hV]; exact (Below.refl _ _).alloc zN _
 have hVs : w.heap.size ≤ V.heap.size := BV.out.size
 have HK : Hid (Knd V) := hK.below BV.out zN
 have x0 := X.out.1
 cases h1 : isVer v with
 | false =>
  have HR : Hid (chk v c = 2) := by simp [Hid, chk, h1]
  go_enter Tryz.func143, Tryz.ntmps143
  go_wp2_with fail
  rw [← hV]
  refine (isVersion_any v _).mono ?_
  rintro e w1 ⟨rfl, rfl⟩
  rw [h1]
  clear h1 hV x0
  go_wp2
  go_ret
  exact ⟨by rw [HR.out]; rfl, BV.out⟩
 | true =>
  have HV2 := hide (ver_cases h1)
  cases h2 : isKd v c.kind with
  | false =>
   have HR : Hid (chk v c = 41) := by simp [Hid, chk, h1, h2]
   go_enter Tryz.func143, Tryz.ntmps143
   go_wp2_with fail
   rw [← hV]
   refine (isVersion_any v _).mono ?_
   rintro e w1 ⟨rfl, rfl⟩
   rw [h1]
   clear h1 hV
   go_wp2_with fail
   refine (isKind_any v c.kind _ HK.out).mono ?_
   rintro e w1 ⟨rfl, rfl⟩
   rw [h2]
   clear h2 x0
   go_wp2
   go_ret
   exact ⟨by rw [HR.out]; rfl, BV.out⟩
  | true =>
   have HR : Hid (chk v c = firstF v c 7 0) := by simp [Hid, chk, h1, h2]
   obtain ⟨k0, k9⟩ := kd_lt h2
   obtain ⟨k, hkk⟩ := zI k0
   have hk9 : k < 9 := by omega
   obtain ⟨hF, _⟩ := HK.out k hk9
   have hFl := fields_lt k
   have HH : Hid (∀ f, hasF c.kind f = (fieldsL.getD k 0).testBit f) := fun f => by unfold hasF; rw [hkk]; rfl
   generalize fieldsL.getD k 0 = F at *
   have hkk' : Hid (c.kind = (k : Int)) := hkk
   clear hkk k0 k9
   go_enter Tryz.func143, Tryz.ntmps143
   go_wp2_with fail
   rw [← hV]
   refine (isVersion_any v _).mono ?_
   rintro e w1 ⟨rfl, rfl⟩
   rw [h1]
   clear h1 hV
   go_wp2_with fail
   refine (isKind_any v c.kind _ HK.out).mono ?_
   rintro e w1 ⟨rfl, rfl⟩
   rw [h2]
   clear h2
   rw [hkk'.out] at x0
   go_wp2_with fail
   go_loopw [6] (fun x wr => ∃ f : Nat, x = .int .i64 (bitF f) ∧ f ≤ 7 ∧ Hid (firstF v c 7 0 = firstF v c (7 - f) f) ∧ Hid (Below V.heap.size V wr)) (fun x _ => 200 - (intOf x).toNat)
   case atStart => exact ⟨0, rfl, by omega, rfl, Below.refl _ _⟩
   case round =>
    obtain ⟨f, rfl, hf, HF, HB⟩ := hrel
    have hws := HB.out.size
    by_cases hf7 : f < 7
    ·have hy : bitF f ≤ 64 ∧ 1 ≤ bitF f ∧ bitF (f + 1) = bitF f * 2 := by
      rcases (by omega : f = 0 ∨ f = 1 ∨ f = 2 ∨ f = 3 ∨ f = 4 ∨ f = 5 ∨ f = 6) with rfl | rfl | rfl | rfl | rfl | rfl | rfl <;> decide
     have hbt := bits_has F f hFl hf7
     rw [← HH.out f] at hbt
     obtain ⟨x0', x1, x2, x3, x4, x5, x6, x7⟩ := X.out.below HB.out zN
     obtain ⟨y, hyy⟩ : ∃ y, Hid (bitF f = y) := ⟨_, rfl⟩
     have hy2 := hide hy.2.2
     obtain ⟨hy64, hy1, _⟩ := hy
     rw [hyy.out] at hbt hy64 hy1 ⊢
     have hne : (y == 0) = false := by rw [beq_eq_false_iff_ne]; omega
     cases hh : hasF c.kind f with
     | true =>
      rw [hh, if_pos rfl] at hbt
      go_wp2_with fail
      rw [← hyy.out]
      refine (isAllowed_any v c f _ hf7 hk hk2).mono ?_
      rintro e w5 ⟨rfl, hb5⟩
      rw [hyy.out]
      have B5 : Hid (Below V.heap.size V w5) := HB.out.trans (hb5.mono hws)
      cases ha : allowF v c f with
      | true =>
       have HN := hide (firstF_next hf7 HF.out (by simp [faultF, hh, ha]))
       clear hb5 hh ha
       go_wp2
       go_roundw
       case rel => exact ⟨f + 1, by rw [hy2.out, hyy.out], by omega, HN, B5⟩
       case measure => simp [intOf]; omega
      | false =>
       by_cases hf6 : f = 6
       ·subst hf6; simp [allowF] at ha
       ·have HN : Hid (chk v c = errF f) := by
         rw [HR.out, firstF_hit hf7 HF.out (by simp [faultF, hh, ha, errF, hf6])]
         simp [Hid, faultF, hh, ha]
        clear hb5 hh ha
        go_wp2_with fail
        rw [← hyy.out]
        refine (faultOf_any f _ hf7).mono ?_
        rintro e w6 ⟨rfl, rfl⟩
        go_wp2
        go_ret
        exact ⟨by rw [HN.out]; rfl, BV.out.trans (B5.out.mono hVs)⟩
     | false =>
      rw [hh] at hbt
      simp only [Bool.false_eq_true, if_false] at hbt
      go_wp2_with fail
      rw [← hyy.out]
      refine (isZero_any c f _ hf7).mono ?_
      rintro e w5 ⟨rfl, hb5⟩
      rw [hyy.out]
      have B5 : Hid (Below V.heap.size V w5) := HB.out.trans (hb5.mono hws)
      cases ha : zeroF c f with
      | true =>
       have HN := hide (firstF_next hf7 HF.out (by simp [faultF, hh, ha]))
       clear hb5 hh ha
       go_wp2
       go_roundw
       case rel => exact ⟨f + 1, by rw [hy2.out, hyy.out], by omega, HN, B5⟩
       case measure => simp [intOf]; omega
      | false =>
       have HN : Hid (chk v c = 48) := by
        rw [HR.out, firstF_hit hf7 HF.out (by simp [faultF, hh, ha])]
        simp [Hid, faultF, hh, ha]
       clear hb5 hh ha
       go_wp2
       go_ret
       exact ⟨by rw [HN.out]; rfl, BV.out.trans (B5.out.mono hVs)⟩
    ·obtain rfl : f = 7 := by omega
     rw [show bitF 7 = 128 from rfl]
     have HN : Hid (chk v c = 0) := by rw [HR.out, HF.out]; rfl
     go_wp2
     go_ret
     exact ⟨by rw [HN.out]; rfl, BV.out.trans (HB.out.mono hVs)⟩
end Go.Proofs.YtibfdoggolkljaaGreatDoor
