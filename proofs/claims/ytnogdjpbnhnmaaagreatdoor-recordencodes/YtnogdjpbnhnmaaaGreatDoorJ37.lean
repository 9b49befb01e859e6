/- Texts of the proof, joined. -/
import Derived.WalkKit
import Derived.Laws.AppendOwn
import Derived.Below
import Derived.Test.YtnogdjpbnhnmaaaGreatDoorJ13
/- A law of our own: where the row lies that append hands back: in the block that it had, or in a new one. -/
namespace Go
open Go.RowKit

theorem append_where {P : Program} (w : World) (base : Nat) (t ty e : TypeId) (i : TypeInfo) (z : Value) (size bytes : Nat) (ht : P.underlying t = some (.slice e)) (hi : P.info? e = some i) (hz : i.zero = some z)
    (hsize : i.size = size) (hby : i.bytes = bytes)
    (v : Value) (n : Nat) (xs : List Value) (hown : w.ownsRow base e size v n xs)
    (a : Addr) (m c : Nat) (news : List Value) (hl : news.length = m * size) (hnews : ∀ j u, news[j]? = some u → w.cell? (a.add j) = some u) (h1 : ∀ u ∈ news, u.oneCell' = true)
    (hm : 0 < m) (h63 : n + m ≤ maxLen) (hbytes : (n + m) * bytes ≤ 140737488355328) {v' : Value} {w' : World}
    (hr : (Builtin.append_ #[t, t] ty #[v, .slice (some a) m c]).run P w = .ok v' w') : v'.ownBlock = v.ownBlock ∨ v'.ownBlock = some w.heap.size := by
  subst hsize
  subst hby
  have hsmall : n + m ≤ 9223372036854775807 := by simp only [maxLen] at h63; omega
  rcases hown.2 with ⟨rfl, rfl⟩ | ⟨g, cap, cur, rfl, hbg, hg, hnc, hcm, hcs, htake⟩
  · have h := run_append_nil (P := P) w t ty e i z ht hi hz a m c news hl hnews (by omega) (by omega) (by have hb := hbytes; simp only [Nat.zero_add] at hb; omega)
    rw [h] at hr
    injection hr with hr _
    subst hr
    exact .inr rfl
  · by_cases hroom : n + m ≤ cap
    · have hfit : n * i.size + news.length ≤ cur.size := by rw [hl, hcs, ← Nat.add_mul]; exact Nat.mul_le_mul_right _ hroom
      have h := run_append_room (P := P) w t ty e i ht hi g n cap cur hg a m c news hl hnews h1 hroom hfit
      rw [h] at hr
      injection hr with hr _
      subst hr
      exact .inl rfl
    · have hcells : ∀ j u, xs[j]? = some u → w.cell? ((⟨g, 0, none⟩ : Addr).add j) = some u := hown.cells (g := g) rfl
      have h := run_append_grow (P := P) w t ty e i z ht hi hz ⟨g, 0, none⟩ n cap xs hown.1 hcells a m c news hl hnews (by omega) (by omega) (growslice_fits (by omega) hbytes)
      rw [h] at hr
      injection hr with hr _
      subst hr
      exact .inr rfl

theorem wpList_append_own2 {P : Program} {w : World} {ops : Array Oper} {rest : List Oper} {o : Oper} {a : Act} {Q : Exit → Act → World → Prop} (hgd : o.guard = none) (s x : Operand) (t : TypeId)
    (ho : o.op = .call { callee := .builtin .append, args := #[s, x], argTypes := #[t, t] })
    (base : Nat) (e : TypeId) (i : TypeInfo) (z : Value) (size bytes : Nat) (ht : P.underlying t = some (.slice e)) (hi : P.info? e = some i) (hz : i.zero = some z)
    (hsize : i.size = size) (hby : i.bytes = bytes) (hzs : z.cells.size = size) (hsz : 0 < size)
    (v : Value) (n : Nat) (xs : List Value) (hs : a.eval s = v) (hown : w.ownsRow base e size v n xs)
    (ad : Addr) (m c : Nat) (news : List Value) (hx : a.eval x = .slice (some ad) m c) (hl : news.length = m * size) (hnews : ∀ j u, news[j]? = some u → w.cell? (ad.add j) = some u) (h1 : ∀ u ∈ news, u.oneCell' = true)
    (hm : 0 < m) (h63 : n + m ≤ maxLen) (hbytes : (n + m) * bytes ≤ 140737488355328) (hbase : base ≤ w.heap.size)
    (h : ∀ v' w', w'.ownsRow base e size v' (n + m) (xs ++ news) → w.grownBy w' v.ownBlock → (v'.ownBlock = v.ownBlock ∨ v'.ownBlock = some w.heap.size) → wpList P ops Q rest (a.put o.dst v') w') : wpList P ops Q (o :: rest) a w := by
  refine wpList_plain hgd fun K hK => ?_
  obtain ⟨v', w', hr, h2, h3, _⟩ := run_append_own (P := P) w base t o.type e i z size bytes ht hi hz hsize hby hzs hsz v n xs hown ad m c news hl hnews h1 h63 hbytes hbase
  have h4 := append_where (P := P) w base t o.type e i z size bytes ht hi hz hsize hby v n xs hown ad m c news hl hnews h1 hm h63 hbytes hr
  unfold Oper.wp execOp
  simp only [ho, resolve, invoke, builtin, Sem.run_bind, Sem.run_pure, Result.andThen_ok, List.map_toArray, List.map_cons, List.map_nil, hs, hx, hr]
  exact hK _ _ (h v' w' h2 h3 h4)
end Go
/- The contracts of the document's own join and shared. -/
namespace Go.Proofs.YtnogdjpbnhnmaaaGreatDoor
open Go.RowKit Go.Wire1

theorem Seg.block {w w' : World} {g n : Nat} {l : List Int} (h : Seg w (some ⟨g, 0, none⟩) n l) (hb : w'.heap[g]? = w.heap[g]?) : Seg w' (some ⟨g, 0, none⟩) n l := by
  refine ⟨h.1, h.2.1, fun hn => ?_⟩
  obtain ⟨b, off, e, hc⟩ := h.2.2 hn
  obtain ⟨rfl, rfl⟩ : g = b ∧ 0 = off := by simpa using e
  exact ⟨g, 0, rfl, fun j hj => by rw [World.cell?_of_block (w := w) hb]; exact hc j hj⟩

set_option maxHeartbeats 1000000 in
set_option maxRecDepth 100000 in
theorem rjoin_any (B g2 c2 m : Nat) (v : Value) (l E : List Int) (w : World) (hown : w.ownsRow B 5 1 v l.length (l.map (Value.int .u8))) (hsrc : Seg w (some ⟨g2, 0, none⟩) m E) (hg2 : g2 < w.heap.size) (hsep : v.ownBlock ≠ some g2) (hlen : l.length + m ≤ 1000000) (hB : B ≤ w.heap.size) :
    Calls Tryz.prog 67 #[v, .slice (some ⟨g2, 0, none⟩) m c2] w fun e w' => ∃ v', e = .returned v' ∧ w'.ownsRow B 5 1 v' (l ++ E).length ((l ++ E).map (Value.int .u8)) ∧ Below B w w' := by
  obtain ⟨i0, hi, hz0, hz1, hz2⟩ := info_parts Tryz.info5
  have hEl : Hid (E.length = m) := hsrc.1
  have HO := hide hown
  have HS := hide hsrc
  have HP := hide hsep
  obtain ⟨LL, hLL⟩ : ∃ LL, Hid (l ++ E = LL) := ⟨_, rfl⟩
  rw [hLL.out]
  clear hown hsrc hsep
  go_enter Tryz.func67, Tryz.ntmps67
  go_wp2_with fail
  go_loopw [0, 5] (fun v c wr => ∃ k : Nat, c = .int .i64 (k : Int) ∧ k ≤ m ∧ Hid (wr.ownsRow B 5 1 v (l ++ E.take k).length ((l ++ E.take k).map (Value.int .u8))) ∧ Hid (v.ownBlock ≠ some g2) ∧ Hid (Seg wr (some ⟨g2, 0, none⟩) m E) ∧ Hid (Below B w wr) ∧ w.heap.size ≤ wr.heap.size) (fun _ c _ => m - (intOf c).toNat)
  case atStart => exact ⟨0, rfl, Nat.zero_le _, by simpa using HO, HP, HS, Below.refl _ _, Nat.le_refl _⟩
  case round =>
    obtain ⟨k, rfl, hk, HR, HQ, HT, HB, hws⟩ := hrel
    by_cases hlt : k < m
    · obtain ⟨ba, oa, e1, hca⟩ := HT.out.2.2 (by omega)
      obtain ⟨rfl, rfl⟩ : g2 = ba ∧ 0 = oa := by simpa using e1
      have ca : wr.cell? ⟨g2, 0 + k, none⟩ = some (.int .u8 (E.getD k 0)) := hca k hlt
      rw [Nat.zero_add] at ca
      have HX : Hid (l ++ E.take (k + 1) = (l ++ E.take k) ++ [E.getD k 0]) := by show _ = _; rw [take_next (by have := hEl.out; omega), List.append_assoc]
      have hpl : Hid ((l ++ E.take k).length ≤ l.length + m) := by show _ ≤ _; rw [List.length_append, List.length_take]; omega
      clear hca e1
      obtain ⟨z, hz⟩ : ∃ z, Hid (E.getD k 0 = z) := ⟨_, rfl⟩
      obtain ⟨P, hP⟩ : ∃ P, Hid (l ++ E.take k = P) := ⟨_, rfl⟩
      obtain ⟨pn, hpn⟩ : ∃ pn, Hid (P.length = pn) := ⟨_, rfl⟩
      rw [hz.out] at ca HX
      rw [hP.out] at HR HX hpl
      rw [hpn.out] at HR hpl
      have HA := hide (World.ownsRow.alloc HR.out (.cells #[.int .u8 z] 5))
      have hpl' : pn ≤ 1000000 := by have := hpl.out; omega
      go_wp2_with (first
        | (at_builtin; refine wpList_append_own2 rfl _ _ 22 rfl B 5 i0 (.int .u8 0) 1 1 Tryz.underlying22 hi hz0 hz1 hz2 rfl (by decide) _ _ _ rfl HA.out ⟨wr.heap.size, 0, none⟩ 1 1 [.int .u8 z] rfl rfl ?c1 ?c2 (by omega) ?c3 ?c4 ?c5 ?_))
      case c1 =>
        first
        | (intro j u hj
           match j, hj with
           | 0, hj => simp at hj; subst hj; simp [Addr.add])
      case c2 => first | rfl | (intro u hu; simp at hu; subst hu; rfl)
      case c3 => unfold maxLen; omega
      case c4 => omega
      case c5 => first | omega | (simp; omega)
      intro v' w1 hown' hgrow hwh
      have O1 : Hid (w1.ownsRow B 5 1 v' (l ++ E.take (k + 1)).length ((l ++ E.take (k + 1)).map (Value.int .u8))) := by
        rw [HX.out, List.length_append, List.map_append, hpn.out]; exact hown'
      have Q1 : Hid (v'.ownBlock ≠ some g2) := by
        rcases hwh with h | h
        · rw [h]; exact HQ.out
        · rw [h]; intro e; simp at e; omega
      have T1 : Hid (Seg w1 (some ⟨g2, 0, none⟩) m E) := by
        refine Seg.block (w := wr.alloc (.cells #[.int .u8 z] 5)) (HT.out.below ((Below.refl wr.heap.size wr).alloc (Nat.le_refl _) _) (Nat.le_refl _)) (hgrow.block _ (by simp; omega) (fun e => HQ.out e.symm))
      have B1 : Hid (Below B w w1) := (HB.out.alloc (by omega) _).grown hgrow (by simp; omega) (fun j hj => (World.ownsRow.lt HR.out j hj).1)
      have s1 : w.heap.size ≤ w1.heap.size := B1.out.size
      clear hown' hgrow hwh HR HA
      go_wp2
      go_roundw
      case rel => exact ⟨k + 1, by go_num, by omega, O1, Q1, T1, B1, s1⟩
      case measure => simp [intOf]; omega
    · have HX : Hid (l ++ E.take k = LL) := by rw [List.take_of_length_le (by have := hEl.out; omega)]; exact hLL
      rw [HX.out] at HR
      go_wp2
      go_ret
      exact ⟨_, rfl, HR.out, HB.out⟩
set_option maxHeartbeats 1000000 in
set_option maxRecDepth 100000 in
theorem rshared_any (k k2 : ByteArray) (w : World) (h1 : k.size ≤ 140737488351232) (h2 : k2.size ≤ 140737488351232) :
    Calls Tryz.prog 108 #[.string k, .string k2] w fun e w' => e = .returned (.int .i64 (shared k k2 : Nat)) ∧ ∃ q, w' = w.drewN q := by
  go_enter Tryz.func108, Tryz.ntmps108
  go_wp2_with fail
  go_loopw [5] (fun x wr => ∃ i q : Nat, x = .int .i64 (i : Int) ∧ i ≤ k.size ∧ i ≤ k2.size ∧ Hid (shared k k2 = i + shL (k.data.toList.drop i) (k2.data.toList.drop i)) ∧ wr = w.drewN q) (fun x _ => k.size - (intOf x).toNat)
  case atStart => exact ⟨0, 0, rfl, by omega, by omega, by simp [Hid, shared], rfl⟩
  case round =>
    obtain ⟨i, q, rfl, hi, hi2, HF, rfl⟩ := hrel
    have lk : Hid (k.data.toList.length = k.size) := (Lib.size_eq k).symm
    have lk2 : Hid (k2.data.toList.length = k2.size) := (Lib.size_eq k2).symm
    by_cases g1 : i < k.size
    · by_cases g2 : i < k2.size
      · have a1 := tb_at k i g1
        have a2 := tb_at k2 i g2
        have HD := hide (shL_drop i k.data.toList k2.data.toList (by rw [lk.out]; exact g1) (by rw [lk2.out]; exact g2))
        have d1 : decide ((i : Int) < (k.size : Int)) = true := decide_eq_true (by omega)
        have d2 : decide ((i : Int) < (k2.size : Int)) = true := decide_eq_true (by omega)
        generalize k.data.toList.getD i 0 = x at *
        generalize k2.data.toList.getD i 0 = y at *
        by_cases hxy : x = y
        · subst hxy
          have HN : Hid (shared k k2 = (i + 1) + shL (k.data.toList.drop (i + 1)) (k2.data.toList.drop (i + 1))) := by
            have e1 := HF.out
            rw [HD.out, if_pos rfl] at e1
            rw [e1]; exact hide (by omega)
          have hb : (((x.toNat : Nat) : Int) == ((x.toNat : Nat) : Int)) = true := by simp
          go_wp2
          go_quiet (fail)
          go_wp2
          go_roundw
          case rel => exact ⟨i + 1, _, by go_num, by omega, by omega, HN, rfl⟩
          case measure => simp [intOf]; omega
        · have HN : Hid (shared k k2 = i) := by
            have e1 := HF.out
            rw [HD.out, if_neg hxy] at e1
            exact e1
          have hb : (((x.toNat : Nat) : Int) == ((y.toNat : Nat) : Int)) = false := by
            rw [beq_eq_false_iff_ne]
            intro e
            exact hxy (UInt8.toNat_inj.1 (by omega))
          go_wp2
          go_quiet (fail)
          go_wp2
          go_ret
          exact ⟨by rw [HN.out]; rfl, _, by rw [World.drewN_drewN]⟩
      · have HN : Hid (shared k k2 = i) := by
          have e1 := HF.out
          rw [shL_end i _ _ (.inr (by rw [lk2.out]; omega))] at e1
          exact e1
        have d1 : decide ((i : Int) < (k.size : Int)) = true := decide_eq_true (by omega)
        have d2 : decide ((i : Int) < (k2.size : Int)) = false := decide_eq_false (by omega)
        go_wp2
        go_quiet (fail)
        go_wp2
        go_ret
        exact ⟨by rw [HN.out]; rfl, _, by rw [World.drewN_drewN]⟩
    · have HN : Hid (shared k k2 = i) := by
        have e1 := HF.out
        rw [shL_end i _ _ (.inl (by rw [lk.out]; omega))] at e1
        exact e1
      have d1 : decide ((i : Int) < (k.size : Int)) = false := decide_eq_false (by omega)
      go_wp2
      go_quiet (fail)
      go_wp2
      go_ret
      exact ⟨by rw [HN.out]; rfl, _, by rw [World.drewN_drewN]⟩
end Go.Proofs.YtnogdjpbnhnmaaaGreatDoor
