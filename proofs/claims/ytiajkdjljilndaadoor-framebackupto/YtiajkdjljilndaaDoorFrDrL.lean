/- Lists of lists in memory, SameLists over them; what is drained, by the bytes alone. -/
import Derived.Test.YtiajkdjljilndaaDoorFrDrain
import Derived.Test.YtiajkdjljilndaaDoorFrCut
import Derived.Test.YtiajkdjljilndaaDoorSame
import Derived.Deep.RegionHeld3
namespace Go.Proofs.YtiajkdjljilndaaDoor
open Go.RowKit Go.Wire1 Go.Crc2 Go.Frm

/-- Lists in memory, whatever they hold. -/
def Lst (w : World) (ca : Option Addr) (n : Nat) (ls : List (List Int)) : Prop := ls.length = n ∧ n ≤ maxLen ∧ (0 < n → ∃ c off, ca = some ⟨c, off, none⟩ ∧ ∀ j, j < n → ∃ a m cap, w.cell? ⟨c, off + j, none⟩ = some (.slice a m cap) ∧ Seg w a m (ls.getD j []))
theorem Chs.lst {w : World} {ca : Option Addr} {n : Nat} {ls : List (List Int)} (h : Chs w ca n ls) : Lst w ca n ls := by
  refine ⟨h.1, h.2.1, fun hn => ?_⟩
  obtain ⟨c, off, e, hc⟩ := h.2.2 hn
  refine ⟨c, off, e, fun j hj => ?_⟩
  obtain ⟨a, m, cap, h1, h2, _⟩ := hc j hj
  exact ⟨a, m, cap, h1, h2⟩
theorem Lst.below {w w' : World} {B : Nat} {ca : Option Addr} {n : Nat} {ls : List (List Int)} (h : Lst w ca n ls) (hb : Below B w w') (hB : w.heap.size ≤ B) : Lst w' ca n ls := by
  refine ⟨h.1, h.2.1, fun hn => ?_⟩
  obtain ⟨c, off, e, hc⟩ := h.2.2 hn
  refine ⟨c, off, e, fun j hj => ?_⟩
  obtain ⟨a, m, cap, h1, h2⟩ := hc j hj
  exact ⟨a, m, cap, by rw [hb.cell (p := ⟨c, off + j, none⟩) (Nat.lt_of_lt_of_le (cell_lt h1) hB)]; exact h1, h2.below hb hB⟩
theorem Lst.drewN {w : World} {ca : Option Addr} {n : Nat} {ls : List (List Int)} (h : Lst w ca n ls) (q : Nat) : Lst (w.drewN q) ca n ls := h
/-- The first k of them. -/
theorem Lst.first {w : World} {ca : Option Addr} {n : Nat} {ls : List (List Int)} (h : Lst w ca n ls) {k : Nat} (hk : k ≤ n) : Lst w ca k (ls.take k) := by
  refine ⟨by rw [List.length_take, h.1]; omega, by have := h.2.1; omega, fun hn => ?_⟩
  obtain ⟨c, off, e, hc⟩ := h.2.2 (by omega)
  refine ⟨c, off, e, fun j hj => ?_⟩
  obtain ⟨a, m, cap, h1, h2⟩ := hc j (by omega)
  refine ⟨a, m, cap, h1, ?_⟩
  rw [List.getD, List.getElem?_take_of_lt hj, ← List.getD]; exact h2
theorem LRows.lst {w : World} {B : Nat} {a : Option Addr} {n cap : Nat} {gs : List PL} (h : LRows w B (.slice a n cap) gs) : Lst w a gs.length (gs.map PL.L) := by
  refine ⟨by simp, h.len, fun hn => ?_⟩
  obtain ⟨b, e, _⟩ := h.at (i := 0) hn
  refine ⟨b, 0, e, fun j hj => ?_⟩
  obtain ⟨b', e', hc, hm⟩ := h.at (i := j) hj
  rw [e] at e'
  simp only [Option.some.injEq, Addr.mk.injEq, and_true] at e'
  subst e'
  refine ⟨_, _, _, by rw [Nat.zero_add]; exact hc, ?_⟩
  have : (gs.map PL.L).getD j [] = (gs.getD j plZ).L := by simp [List.getD, List.getElem?_map, List.getElem?_eq_getElem hj]
  rw [this]; exact hm.seg
theorem chs_lit1 (w : World) (a : Option Addr) (m cap : Nat) (l : List Int) (T : TypeId) (h : Seg w a m l) (hc : m ≤ cap) (hm : cap ≤ maxLen) (hy : Byt l) : Chs (w.alloc (.cells #[.slice a m cap] T)) (some ⟨w.heap.size, 0, none⟩) 1 [l] := by
  refine ⟨rfl, by decide, fun _ => ⟨w.heap.size, 0, rfl, fun j hj => ?_⟩⟩
  obtain rfl : j = 0 := by omega
  exact ⟨a, m, cap, by rw [World.cell?_alloc_at _ _ _ _ rfl]; rfl, h.below ((Below.refl _ _).alloc (Nat.le_refl _) _) (Nat.le_refl _), hc, hm, hy⟩
theorem chs_lit2 (w : World) (a : Option Addr) (m cap : Nat) (l : List Int) (a' : Option Addr) (m' cap' : Nat) (l' : List Int) (T : TypeId) (h : Seg w a m l) (hc : m ≤ cap) (hm : cap ≤ maxLen) (hy : Byt l) (h' : Seg w a' m' l') (hc' : m' ≤ cap') (hm' : cap' ≤ maxLen) (hy' : Byt l') : Chs (w.alloc (.cells #[.slice a m cap, .slice a' m' cap'] T)) (some ⟨w.heap.size, 0, none⟩) 2 [l, l'] := by
  refine ⟨rfl, by decide, fun _ => ⟨w.heap.size, 0, rfl, fun j hj => ?_⟩⟩
  rcases (by omega : j = 0 ∨ j = 1) with rfl | rfl
  · exact ⟨a, m, cap, by rw [World.cell?_alloc_at _ _ _ _ rfl]; rfl, h.below ((Below.refl _ _).alloc (Nat.le_refl _) _) (Nat.le_refl _), hc, hm, hy⟩
  · exact ⟨a', m', cap', by rw [World.cell?_alloc_at _ _ _ _ rfl]; rfl, h'.below ((Below.refl _ _).alloc (Nat.le_refl _) _) (Nat.le_refl _), hc', hm', hy'⟩

set_option maxHeartbeats 1000000 in
set_option maxRecDepth 100000 in
theorem sameLst_any (ga ua : Option Addr) (i gc uc : Nat) (ls : List (List Int)) (w : World) (hg : Lst w ga i ls) (hu : Lst w ua i ls) :
    Calls Tryd.prog 11 #[.slice ga i gc, .slice ua i uc] w fun e w' => e = .returned (.bool true) ∧ ∃ q, w' = w.drewN q := by
  have hlen := hg.2.1
  unfold maxLen at hlen
  have HG := hide hg
  have HU := hide hu
  clear hg hu
  have hii : (((i : Nat) : Int) != ((i : Nat) : Int)) = false := by simp
  go_enter Tryd.func11, Tryd.ntmps11
  go_wp2_with fail
  go_loopw [5] (fun x wr => ∃ (t d : Nat), x = .int .i64 (t : Int) ∧ t ≤ i ∧ wr = w.drewN d) (fun x _ => i - (intOf x).toNat)
  case atStart => exact ⟨0, 0, rfl, by omega, rfl⟩
  case round =>
    obtain ⟨t, d, rfl, ht, rfl⟩ := hrel
    by_cases htl : t < i
    · obtain ⟨gb, go, rfl, hcg⟩ := HG.out.2.2 (by omega)
      obtain ⟨ub, uo, rfl, hcu⟩ := HU.out.2.2 (by omega)
      obtain ⟨pa, pn, pc, cj, sj⟩ := hcg t htl
      obtain ⟨qa, qn, qc, ck, sk⟩ := hcu t htl
      have cj' : (w.drewN d).cell? ⟨gb, go + t, none⟩ = some (.slice pa pn pc) := cj
      have ck' : (w.drewN d).cell? ⟨ub, uo + t, none⟩ = some (.slice qa qn qc) := ck
      have HMJ : Hid (Seg (w.drewN d) pa pn (ls.getD t [])) := sj
      have HMK : Hid (Seg (w.drewN d) qa qn (ls.getD t [])) := sk
      clear cj ck sj sk hcg hcu
      obtain ⟨V, hV⟩ : ∃ V, Hid (w.drewN d = V) := ⟨_, hide rfl⟩
      rw [hV.out] at cj' ck' HMJ HMK ⊢
      have i1 : (0 : Int) ≤ (t : Int) := by omega
      have i2 : (t : Int) < (i : Int) := by omega
      go_wp2_with fail
      go_region_held3 (fun w' => w'.cell? ⟨gb, go + t, none⟩ = some (.slice pa pn pc) ∧ w'.cell? ⟨ub, uo + t, none⟩ = some (.slice qa qn qc)) (go_keep) ((go_at_call 14; refine (same_any _ _ pn qn pc qc _ _ _ (by exact HMJ.out) (by exact HMK.out)).mono ?_; rintro e w7 ⟨rfl, z, rfl⟩; rw [same_yes rfl]))
      go_wp2
      go_roundw
      case rel => exact ⟨t + 1, d + (1 + z), by go_num, by omega, by rw [← hV.out]; simp [World.drewN, Nat.add_assoc]⟩
      case measure => simp [intOf]; omega
    · go_wp2
      go_ret
      exact ⟨rfl, d, rfl⟩

/-- What stands behind the last whole frame tells. -/
def tailE (v : Nat) (h : List Int) : Nat := if h = [] then 0 else match Frm.look v h with
  | .short => 11
  | .bad _ e => e
  | .whole _ _ => 0
theorem drain_at (v : Nat) (ps : List (List Int)) (h : List Int) (hp : ∀ p ∈ ps, p.length ≤ 1048576) (hl : ∀ f t, Frm.look v h ≠ .whole f t) : drainF ((joinF v ps ++ h).length + 1) v (joinF v ps ++ h) = (ps, (joinF v ps).length, tailE v h) := by
  have h8 := joinF_long v ps
  have e1 : (joinF v ps ++ h).length + 1 = ps.length + ((joinF v ps ++ h).length - ps.length + 1) := by rw [List.length_append]; omega
  rw [e1, drainF_join v h ps _ hp]
  unfold tailE
  cases h with
  | nil => simp [drainF]
  | cons a r =>
    rw [if_neg (by simp)]
    cases hk : Frm.look v (a :: r) with
    | short => simp [drainF, hk]
    | bad k e => simp [drainF, hk]
    | whole f t => exact absurd hk (hl f t)
/-- All bytes are whole frames and what stands behind them. -/
theorem drain_dec (v : Nat) : ∀ (n : Nat) (Y : List Int), Y.length ≤ n → Byt Y → ∃ ps h, Y = joinF v ps ++ h ∧ (∀ p ∈ ps, p.length ≤ 1048576) ∧ ∀ f t, Frm.look v h ≠ .whole f t
  | 0, Y, hn, _ => ⟨[], [], by simp [joinF, List.length_eq_zero_iff.1 (Nat.le_zero.1 hn)], (fun p hp => by cases hp), fun f t => by simp [Frm.look]⟩
  | n + 1, Y, hn, hy => by
    by_cases hw : ∃ f t, Frm.look v Y = .whole f t
    · obtain ⟨f, t, hw⟩ := hw
      obtain ⟨h1, h2, h3, h4⟩ := whole_frm hy hw
      obtain ⟨ps, h, e, hp, hl⟩ := drain_dec v n (Y.drop (t + 4)) (by rw [List.length_drop]; omega) (byt_drop hy _)
      refine ⟨((Y.take t).drop f) :: ps, h, ?_, ?_, hl⟩
      · rw [joinF, List.append_assoc, ← e, ← h2, List.take_append_drop]
      · intro p hq
        rcases List.mem_cons.1 hq with rfl | hq
        · exact h1
        · exact hp p hq
    · exact ⟨[], Y, rfl, (fun p hp => by cases hp), fun f t h => hw ⟨f, t, h⟩⟩
theorem joinF_app (v : Nat) (a b : List (List Int)) : joinF v (a ++ b) = joinF v a ++ joinF v b := by
  induction a with
  | nil => rfl
  | cons p r ih => rw [List.cons_append, joinF, joinF, ih, List.append_assoc]
theorem frm_has (v : Nat) (p : List Int) : ∃ a b, frm v p = a ++ p ++ b := ⟨hdL v p.length, _, rfl⟩
theorem joinF_byt {v : Nat} {ps : List (List Int)} {h : List Int} (hy : Byt (joinF v ps ++ h)) : ∀ p ∈ ps, Byt p := by
  induction ps with
  | nil => intro p hp; cases hp
  | cons q r ih =>
    intro p hp z hz
    rcases List.mem_cons.1 hp with rfl | hp
    · obtain ⟨a, b, e⟩ := frm_has v p
      exact hy z (by rw [joinF, e]; simp [hz])
    · refine ih ?_ p hp z hz
      intro x hx
      exact hy x (by rw [joinF, List.append_assoc]; exact List.mem_append_right _ hx)
theorem len3_bad {t : List Int} {k e : Nat} (h : len3 t = .bad k e) : e = 13 ∨ e = 73 := by
  match t with
  | [] => simp [len3] at h
  | a :: r =>
    simp only [len3] at h
    repeat' split at h
    all_goals first | (cases h; simp) | cases h
theorem look_bad_e {v : Nat} {l : List Int} {k e : Nat} (h : Frm.look v l = .bad k e) : e ≠ 0 ∧ e ≠ 11 := by
  rcases look_cases v l with ⟨h1, _⟩ | ⟨x, r, rfl, hx, h1⟩ | ⟨x, r, rfl, hx, h1⟩ | ⟨x, r, rfl, hx, h1⟩ | ⟨t', k', e', rfl, ht, h1⟩ | ⟨n, k', t', rfl, ht⟩
  · rw [h1] at h; cases h
  · rw [h1] at h; cases h; decide
  · rw [h1] at h; cases h; decide
  · rw [h1] at h; cases h; decide
  · rw [h1] at h; cases h; have := len3_bad ht; omega
  · obtain ⟨hd, r, H, e', _⟩ := ok_split (v := v) ht
    rw [e', look_hd H] at h
    rcases lookS_cases hd.length (hd.length + n) (fb (upd 0#32 ((hd ++ r).take (hd.length + n)))) ((hd ++ r).drop (hd.length + n)) 0 with ⟨h1, _⟩ | ⟨h1, q, h2⟩ | ⟨d, x, q, h2, _, _, _, h5⟩
    · rw [h1] at h; cases h
    · rw [h1] at h; cases h
    · rw [h5] at h; cases h; decide
/-- What is told of bytes, and of more bytes. -/
theorem drain_sticky (v : Nat) (Y X : List Int) (hy : Byt Y) (hx : Byt X) :
    ((drainF (Y.length + 1) v Y).2.2 ≠ 0 ∧ (drainF (Y.length + 1) v Y).2.2 ≠ 11 ∧ drainF ((Y ++ X).length + 1) v (Y ++ X) = drainF (Y.length + 1) v Y) ∨
    (((drainF (Y.length + 1) v Y).2.2 = 0 ∨ (drainF (Y.length + 1) v Y).2.2 = 11) ∧ ∃ qs, (drainF ((Y ++ X).length + 1) v (Y ++ X)).1 = (drainF (Y.length + 1) v Y).1 ++ qs ∧ (drainF (Y.length + 1) v Y).2.1 ≤ (drainF ((Y ++ X).length + 1) v (Y ++ X)).2.1) := by
  obtain ⟨ps, h, e, hp, hl⟩ := drain_dec v Y.length Y (Nat.le_refl _) hy
  have hyh : Byt (h ++ X) := byt_app (fun z hz => hy z (by rw [e]; exact List.mem_append_right _ hz)) hx
  have d1 := drain_at v ps h hp hl
  rw [← e] at d1
  have key : (∃ k e', Frm.look v h = .bad k e') ∨ Frm.look v h = .short := by
    cases hk : Frm.look v h with
    | short => exact .inr rfl
    | bad k e' => exact .inl ⟨k, e', rfl⟩
    | whole f t => exact absurd hk (hl f t)
  rcases key with ⟨k, e', hk⟩ | hk
  · have hne : h ≠ [] := by rintro rfl; simp [Frm.look] at hk
    have hk2 : Frm.look v (h ++ X) = .bad k e' := by rw [look_mono _ (by rw [hk]; simp), hk]
    have t1 : tailE v h = e' := by unfold tailE; rw [if_neg hne, hk]
    have t2 : tailE v (h ++ X) = e' := by unfold tailE; rw [if_neg (by simp [hne]), hk2]
    have d2 := drain_at v ps (h ++ X) hp (fun f t => by rw [hk2]; simp)
    rw [← List.append_assoc, ← e] at d2
    have hb := look_bad_e hk
    exact .inl ⟨by rw [d1]; show tailE v h ≠ 0; rw [t1]; exact hb.1, by rw [d1]; show tailE v h ≠ 11; rw [t1]; exact hb.2, by rw [d1, d2, t1, t2]⟩
  · obtain ⟨qs, h', e2, hq, hl'⟩ := drain_dec v (h ++ X).length (h ++ X) (Nat.le_refl _) hyh
    have d2 := drain_at v (ps ++ qs) h' (fun p hpp => (List.mem_append.1 hpp).elim (hp p) (hq p)) hl'
    rw [joinF_app, List.append_assoc, ← e2, ← List.append_assoc, ← e] at d2
    refine .inr ⟨?_, qs, by rw [d1, d2], by rw [d1, d2]; simp⟩
    rw [d1]
    show tailE v h = 0 ∨ tailE v h = 11
    unfold tailE
    rw [hk]
    split
    · exact .inl rfl
    · exact .inr rfl
end Go.Proofs.YtiajkdjljilndaaDoor
