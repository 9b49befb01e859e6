/- Texts of the proof, joined. -/
import Derived.Test.YtdokagebfeejbaaGreatDoorJ20
/- The contract of hasExtra. -/
namespace Go.Proofs.YtdokagebfeejbaaGreatDoor
open Go.RowKit Go.Wire1
set_option maxHeartbeats 1000000 in
set_option maxRecDepth 100000 in
theorem extra_two (mk mrow mnum mx my mp mq mst : Int) (msm : Bool) (mc : Cm) (msq : Int) (mua : Option Addr) (muk muc : Nat) (ok orow onum ox oy op oq ost : Int) (osm : Bool) (oc : Cm) (osq : Int) (oua : Option Addr) (ouk ouc : Nat) (SV : Value) (w : World) (eb : Bool) (HEB : Hid (decide (¬ (mx = ox ∧ my = oy ∧ mp = op ∧ mq = oq ∧ mst = ost ∧ msm = osm ∧ mc.kind = oc.kind ∧ mc.client = oc.client ∧ mc.req = oc.req ∧ mc.key.toList = oc.key.toList ∧ mc.key2.toList = oc.key2.toList ∧ mc.val.toList = oc.val.toList ∧ mc.old.toList = oc.old.toList ∧ mc.n = oc.n ∧ msq = osq ∧ muk = ouk)) = eb)) (_hmk : muk ≤ 9223372036854775807) (_hok : ouk ≤ 9223372036854775807)
    (MO : Hid (∀ W, Calls Tryz.prog 41 #[SV] W fun r w' => r = .returned (.agg #[.int .i64 ok, .int .i64 orow, .int .i64 onum, .int .i64 ox, .int .i64 oy, .int .i64 op, .int .i64 oq, .int .i64 ost, .bool osm, .int .i64 oc.kind, .int .i64 oc.client, .int .i64 oc.req, .string oc.key, .string oc.key2, .string oc.val, .string oc.old, .int .i64 oc.n, .int .i64 osq, .slice oua ouk ouc]) ∧ Below W.heap.size W w')) :
    Calls Tryz.prog 23 #[.agg #[.int .i64 mk, .int .i64 mrow, .int .i64 mnum, .int .i64 mx, .int .i64 my, .int .i64 mp, .int .i64 mq, .int .i64 mst, .bool msm, .int .i64 mc.kind, .int .i64 mc.client, .int .i64 mc.req, .string mc.key, .string mc.key2, .string mc.val, .string mc.old, .int .i64 mc.n, .int .i64 msq, .slice mua muk muc], SV] w fun r w' => r = .returned (.bool eb) ∧ Below w.heap.size w w' := by
  obtain ⟨X, hX⟩ : ∃ X, X = w.alloc (.cells #[.int .i64 mk, .int .i64 mrow, .int .i64 mnum, .int .i64 mx, .int .i64 my, .int .i64 mp, .int .i64 mq, .int .i64 mst, .bool msm, .int .i64 mc.kind, .int .i64 mc.client, .int .i64 mc.req, .string mc.key, .string mc.key2, .string mc.val, .string mc.old, .int .i64 mc.n, .int .i64 msq, .slice mua muk muc] 30) := ⟨_, rfl⟩
  have QX : Hid (Blk X w.heap.size [.int .i64 mk, .int .i64 mrow, .int .i64 mnum, .int .i64 mx, .int .i64 my, .int .i64 mp, .int .i64 mq, .int .i64 mst, .bool msm, .int .i64 mc.kind, .int .i64 mc.client, .int .i64 mc.req, .string mc.key, .string mc.key2, .string mc.val, .string mc.old, .int .i64 mc.n, .int .i64 msq, .slice mua muk muc]) := by rw [hX]; exact blk_new w 30 [.int .i64 mk, .int .i64 mrow, .int .i64 mnum, .int .i64 mx, .int .i64 my, .int .i64 mp, .int .i64 mq, .int .i64 mst, .bool msm, .int .i64 mc.kind, .int .i64 mc.client, .int .i64 mc.req, .string mc.key, .string mc.key2, .string mc.val, .string mc.old, .int .i64 mc.n, .int .i64 msq, .slice mua muk muc]
  have BX : Hid (Below w.heap.size w X) := by rw [hX]; exact (Below.refl _ w).alloc (Nat.le_refl _) _
  go_enter Tryz.func23, Tryz.ntmps23
  go_upto_region 1 with fail
  rw [← hX]
  clear hX
  go_wp2_with fail
  refine (MO.out X).mono ?_
  rintro r w1 ⟨rfl, b1⟩
  have QA := hide (QX.out.on b1)
  have B1 : Hid (Below w.heap.size w w1) := BX.out.trans (b1.mono BX.out.size)
  have QB : Hid (Blk ((w1.alloc (.cells #[.int .i64 0, .int .i64 0, .int .i64 0, .int .i64 0, .int .i64 0, .int .i64 0, .int .i64 0, .int .i64 0, .bool false, .int .i64 0, .int .i64 0, .int .i64 0, .string ⟨#[]⟩, .string ⟨#[]⟩, .string ⟨#[]⟩, .string ⟨#[]⟩, .int .i64 0, .int .i64 0, .slice none 0 0] 30)).setCells w1.heap.size 0 [.int .i64 ok, .int .i64 orow, .int .i64 onum, .int .i64 ox, .int .i64 oy, .int .i64 op, .int .i64 oq, .int .i64 ost, .bool osm, .int .i64 oc.kind, .int .i64 oc.client, .int .i64 oc.req, .string oc.key, .string oc.key2, .string oc.val, .string oc.old, .int .i64 oc.n, .int .i64 osq, .slice oua ouk ouc]) w1.heap.size [.int .i64 ok, .int .i64 orow, .int .i64 onum, .int .i64 ox, .int .i64 oy, .int .i64 op, .int .i64 oq, .int .i64 ost, .bool osm, .int .i64 oc.kind, .int .i64 oc.client, .int .i64 oc.req, .string oc.key, .string oc.key2, .string oc.val, .string oc.old, .int .i64 oc.n, .int .i64 osq, .slice oua ouk ouc]) := blk_cells (blk_new w1 30 [.int .i64 0, .int .i64 0, .int .i64 0, .int .i64 0, .int .i64 0, .int .i64 0, .int .i64 0, .int .i64 0, .bool false, .int .i64 0, .int .i64 0, .int .i64 0, .string ⟨#[]⟩, .string ⟨#[]⟩, .string ⟨#[]⟩, .string ⟨#[]⟩, .int .i64 0, .int .i64 0, .slice none 0 0]) rfl
  have BY : Hid (Below w1.heap.size w1 ((w1.alloc (.cells #[.int .i64 0, .int .i64 0, .int .i64 0, .int .i64 0, .int .i64 0, .int .i64 0, .int .i64 0, .int .i64 0, .bool false, .int .i64 0, .int .i64 0, .int .i64 0, .string ⟨#[]⟩, .string ⟨#[]⟩, .string ⟨#[]⟩, .string ⟨#[]⟩, .int .i64 0, .int .i64 0, .slice none 0 0] 30)).setCells w1.heap.size 0 [.int .i64 ok, .int .i64 orow, .int .i64 onum, .int .i64 ox, .int .i64 oy, .int .i64 op, .int .i64 oq, .int .i64 ost, .bool osm, .int .i64 oc.kind, .int .i64 oc.client, .int .i64 oc.req, .string oc.key, .string oc.key2, .string oc.val, .string oc.old, .int .i64 oc.n, .int .i64 osq, .slice oua ouk ouc])) := below_cells (Nat.le_refl _) _ _ _ ((Below.refl _ _).alloc (Nat.le_refl _) _)
  have TZ : Hid ((w1.alloc (.cells #[.int .i64 0, .int .i64 0, .int .i64 0, .int .i64 0, .int .i64 0, .int .i64 0, .int .i64 0, .int .i64 0, .bool false, .int .i64 0, .int .i64 0, .int .i64 0, .string ⟨#[]⟩, .string ⟨#[]⟩, .string ⟨#[]⟩, .string ⟨#[]⟩, .int .i64 0, .int .i64 0, .slice none 0 0] 30)).there w1.heap.size 0 19) := (blk_new w1 30 [.int .i64 0, .int .i64 0, .int .i64 0, .int .i64 0, .int .i64 0, .int .i64 0, .int .i64 0, .int .i64 0, .bool false, .int .i64 0, .int .i64 0, .int .i64 0, .string ⟨#[]⟩, .string ⟨#[]⟩, .string ⟨#[]⟩, .string ⟨#[]⟩, .int .i64 0, .int .i64 0, .slice none 0 0]).there
  have QA2 := hide (QA.out.on BY.out)
  have BW : Hid (Below w.heap.size w ((w1.alloc (.cells #[.int .i64 0, .int .i64 0, .int .i64 0, .int .i64 0, .int .i64 0, .int .i64 0, .int .i64 0, .int .i64 0, .bool false, .int .i64 0, .int .i64 0, .int .i64 0, .string ⟨#[]⟩, .string ⟨#[]⟩, .string ⟨#[]⟩, .string ⟨#[]⟩, .int .i64 0, .int .i64 0, .slice none 0 0] 30)).setCells w1.heap.size 0 [.int .i64 ok, .int .i64 orow, .int .i64 onum, .int .i64 ox, .int .i64 oy, .int .i64 op, .int .i64 oq, .int .i64 ost, .bool osm, .int .i64 oc.kind, .int .i64 oc.client, .int .i64 oc.req, .string oc.key, .string oc.key2, .string oc.val, .string oc.old, .int .i64 oc.n, .int .i64 osq, .slice oua ouk ouc])) := B1.out.trans (BY.out.mono B1.out.size)
  clear b1 QX BX QA B1 BY
  go_upto_region 2 with (first | (refine wpList_store_mid rfl 30 _ _ rfl w1.heap.size 0 #[.int .i64 ok, .int .i64 orow, .int .i64 onum, .int .i64 ox, .int .i64 oy, .int .i64 op, .int .i64 oq, .int .i64 ost, .bool osm, .int .i64 oc.kind, .int .i64 oc.client, .int .i64 oc.req, .string oc.key, .string oc.key2, .string oc.val, .string oc.old, .int .i64 oc.n, .int .i64 osq, .slice oua ouk ouc] rfl rfl TZ.out (by kernel_rfl) (by kernel_rfl) ?_))
  clear TZ
  generalize (w1.alloc (.cells #[.int .i64 0, .int .i64 0, .int .i64 0, .int .i64 0, .int .i64 0, .int .i64 0, .int .i64 0, .int .i64 0, .bool false, .int .i64 0, .int .i64 0, .int .i64 0, .string ⟨#[]⟩, .string ⟨#[]⟩, .string ⟨#[]⟩, .string ⟨#[]⟩, .int .i64 0, .int .i64 0, .slice none 0 0] 30)).setCells w1.heap.size 0 [.int .i64 ok, .int .i64 orow, .int .i64 onum, .int .i64 ox, .int .i64 oy, .int .i64 op, .int .i64 oq, .int .i64 ost, .bool osm, .int .i64 oc.kind, .int .i64 oc.client, .int .i64 oc.req, .string oc.key, .string oc.key2, .string oc.val, .string oc.old, .int .i64 oc.n, .int .i64 osq, .slice oua ouk ouc] = Y at *
  generalize (Value.agg #[.int .i64 ok, .int .i64 orow, .int .i64 onum, .int .i64 ox, .int .i64 oy, .int .i64 op, .int .i64 oq, .int .i64 ost, .bool osm, .int .i64 oc.kind, .int .i64 oc.client, .int .i64 oc.req, .string oc.key, .string oc.key2, .string oc.val, .string oc.old, .int .i64 oc.n, .int .i64 osq, .slice oua ouk ouc]) = AB
  generalize w1.heap.size = Q at *
  have m3 := QA2.out.cell 3 _ rfl
  have o3 := QB.out.cell 3 _ rfl
  have m4 := QA2.out.cell 4 _ rfl
  have o4 := QB.out.cell 4 _ rfl
  have m5 := QA2.out.cell 5 _ rfl
  have o5 := QB.out.cell 5 _ rfl
  have m6 := QA2.out.cell 6 _ rfl
  have o6 := QB.out.cell 6 _ rfl
  have m7 := QA2.out.cell 7 _ rfl
  have o7 := QB.out.cell 7 _ rfl
  have m8 := QA2.out.cell 8 _ rfl
  have o8 := QB.out.cell 8 _ rfl
  have m9 := QA2.out.cell 9 _ rfl
  have o9 := QB.out.cell 9 _ rfl
  have m10 := QA2.out.cell 10 _ rfl
  have o10 := QB.out.cell 10 _ rfl
  have m11 := QA2.out.cell 11 _ rfl
  have o11 := QB.out.cell 11 _ rfl
  have m12 := QA2.out.cell 12 _ rfl
  have o12 := QB.out.cell 12 _ rfl
  have m13 := QA2.out.cell 13 _ rfl
  have o13 := QB.out.cell 13 _ rfl
  have m14 := QA2.out.cell 14 _ rfl
  have o14 := QB.out.cell 14 _ rfl
  have m15 := QA2.out.cell 15 _ rfl
  have o15 := QB.out.cell 15 _ rfl
  have m16 := QA2.out.cell 16 _ rfl
  have o16 := QB.out.cell 16 _ rfl
  have m17 := QA2.out.cell 17 _ rfl
  have o17 := QB.out.cell 17 _ rfl
  have m18 := QA2.out.cell 18 _ rfl
  have o18 := QB.out.cell 18 _ rfl
  refine wp_region_lit ?_
  go_wp2_with fail
  all_goals go_ret
  all_goals refine ⟨?_, BW.out⟩
  all_goals rw [← HEB.out]
  all_goals clear m3 o3 m4 o4 m5 o5 m6 o6 m7 o7 m8 o8 m9 o9 m10 o10 m11 o11 m12 o12 m13 o13 m14 o14 m15 o15 m16 o16 m17 o17 m18 o18 QA2 QB MO BW HEB
  all_goals simp_all
  by_cases hkk : muk = ouk
  · simp [hkk]
  · have h9 : ((muk : Int) != (ouk : Int)) = true := by rw [bne_iff_ne]; omega
    simp [hkk, h9]
/-- Has a message a field that is not its shape's? -/
def extraM (m : Ms) : Bool := decide (¬ (m.x = (only m (shK m)).x ∧ m.y = (only m (shK m)).y ∧ m.p = (only m (shK m)).p ∧ m.q = (only m (shK m)).q ∧ m.st = (only m (shK m)).st ∧ m.sm = (only m (shK m)).sm ∧ m.c.kind = (only m (shK m)).c.kind ∧ m.c.client = (only m (shK m)).c.client ∧ m.c.req = (only m (shK m)).c.req ∧ m.c.key.toList = (only m (shK m)).c.key.toList ∧ m.c.key2.toList = (only m (shK m)).c.key2.toList ∧ m.c.val.toList = (only m (shK m)).c.val.toList ∧ m.c.old.toList = (only m (shK m)).c.old.toList ∧ m.c.n = (only m (shK m)).c.n ∧ m.sq = (only m (shK m)).sq ∧ m.dl.length = (only m (shK m)).dl.length))
theorem only_dl (m : Ms) (k : Nat) : (only m k).dl = if hasD k then m.dl else [] := by
  match k with
  | 0 => rfl
  | 1 => rfl
  | 2 => rfl
  | 3 => rfl
  | 4 => rfl
  | 5 => rfl
  | 6 => rfl
  | 7 => rfl
  | k + 8 => rfl
theorem hasExtra_any (m : Ms) (ua : Option Addr) (uk uc : Nat) (w : World) (hu : uk = m.dl.length) (hb : uk ≤ 9223372036854775807) :
    Calls Tryz.prog 23 #[.agg (mgc m (.slice ua uk uc)).toArray, shV m (.slice ua uk uc)] w fun r w' => r = .returned (.bool (extraM m)) ∧ Below w.heap.size w w' := by
  obtain ⟨oa, ok, oc, hO, hk⟩ : ∃ oa ok oc, onlyU (.slice ua uk uc) (shK m) = .slice oa ok oc ∧ ok = (only m (shK m)).dl.length := by
    rw [only_dl]
    unfold onlyU
    cases hasD (shK m) with
    | true => exact ⟨_, _, _, rfl, hu⟩
    | false => exact ⟨_, _, _, rfl, rfl⟩
  have hob : ok ≤ 9223372036854775807 := by
    rw [hk, only_dl]
    split
    · omega
    · exact Nat.zero_le _
  have MO := fun W => msgOf_any m (.slice ua uk uc) (fun _ => ⟨ua, uk, uc, rfl⟩) W
  rw [hO] at MO
  obtain ⟨k, row, num, x, y, p, q, st, sm, c, sq, dl⟩ := m
  refine extra_two k row num x y p q st sm c sq ua uk uc _ _ _ _ _ _ _ _ _ _ _ oa ok oc _ w _ ?_ hb hob MO
  unfold extraM
  rw [hu, hk]
  rfl
end Go.Proofs.YtdokagebfeejbaaGreatDoor
