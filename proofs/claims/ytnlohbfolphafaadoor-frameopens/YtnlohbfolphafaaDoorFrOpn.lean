/- Open at any arguments, the program's and the document's own. -/
import Derived.Test.YtnlohbfolphafaaDoorFrLook
namespace Go.Proofs.YtnlohbfolphafaaDoor
open Go.RowKit Go.Wire1 Go.Crc2 Go.Frm

theorem look_bad_ne {v : Nat} {l : List Int} {k e : Nat} (h : Frm.look v l = .bad k e) : e ≠ 0 := by
  rcases look_cases v l with ⟨h1, _⟩ | ⟨x, r, rfl, hx, h1⟩ | ⟨x, r, rfl, hx, h1⟩ | ⟨x, r, rfl, hx, h1⟩ | ⟨t', k', e', rfl, ht, h1⟩ | ⟨n, k', t', rfl, ht⟩
  · rw [h1] at h; cases h
  · rw [h1] at h; cases h; decide
  · rw [h1] at h; cases h; decide
  · rw [h1] at h; cases h; decide
  · rw [h1] at h; cases h; have := (len3_bad ht).2; omega
  · rw [lk_ok ht] at h
    rcases lookS_cases (3 + k') (3 + k' + n) (fb (upd 0#32 (([77, 84, (v : Int)] ++ t').take (3 + k' + n)))) (([77, 84, (v : Int)] ++ t').drop (3 + k' + n)) 0 with ⟨h1, _⟩ | ⟨h1, _⟩ | ⟨d, x, r, _, _, _, _, h5⟩
    · rw [h1] at h; cases h
    · rw [h1] at h; cases h
    · rw [h5] at h; cases h; decide

set_option maxHeartbeats 2000000 in
set_option maxRecDepth 100000 in
theorem ropen_ver (v : Int) (sa : Option Addr) (n cap : Nat) (w : World) (hv : verB v = false) :
    Calls Tryd.prog 37 #[.int .i64 v, .slice sa n cap] w fun r w' => r = .returned (.tuple #[.slice none 0 0, .int .i64 0, .int .i64 2]) ∧ w = w' := by
  go_enter Tryd.func37, Tryd.ntmps37
  go_wp2_with fail
  refine (rokay_any v _).mono ?_
  rintro r w1 ⟨rfl, rfl⟩
  rw [hv]
  clear hv
  go_wp2
  go_ret3
  exact ⟨rfl, rfl⟩

set_option maxHeartbeats 2000000 in
set_option maxRecDepth 100000 in
theorem ropen_any (v : Nat) (sa : Option Addr) (n cap : Nat) (l : List Int) (w : World) (hv : v ≤ 2) (hs : Seg w sa n l) (hnc : n ≤ cap) (hc : cap ≤ maxLen) (hy : Byt l) (hlen : n ≤ 140737488355328) :
    Calls Tryd.prog 37 #[.int .i64 (v : Int), .slice sa n cap] w fun r w' => ∃ val, r = .returned (.tuple #[val, .int .i64 ((opn v l).2.1 : Int), .int .i64 ((opn v l).2.2 : Int)]) ∧ w'.ownsRow w.heap.size 5 1 val (opn v l).1.length ((opn v l).1.map (Value.int .u8)) ∧ Below w.heap.size w w' := by
  have E : Hid (verB (v : Int) = true) := by show _ = _; unfold verB; simp; omega
  have HLK := hide (rlook_any v sa n cap l w hv hs hnc hc hy)
  have HS := hide hs
  have hnl := hide hs.1
  unfold maxLen at hc
  cases hlk : Frm.look v l with
  | short =>
    have e1 : lkT v l = (0, 0, 0, 11) := by unfold lkT; rw [hlk]
    have e2 : Hid (opn v l = ([], 0, 11)) := by show _ = _; unfold opn; rw [hlk]
    rw [e1] at HLK
    rw [e2.out]
    clear e1 hlk hs hy
    go_enter Tryd.func37, Tryd.ntmps37
    go_wp2_with fail
    refine (rokay_any (v : Int) _).mono ?_
    rintro r w1 ⟨rfl, rfl⟩
    rw [E.out]
    go_wp2_with fail
    refine HLK.out.mono ?_
    rintro r w1 ⟨rfl, hb⟩
    have HB := hide hb
    clear hb
    go_wp2
    go_ret3
    exact ⟨_, rfl, World.ownsRow_nil _ _ _ _, HB.out⟩
  | bad k e =>
    have he := look_bad_ne hlk
    have he1 : ((e : Int) != 0) = true := by rw [bne_iff_ne]; omega
    have he2 : ((e : Int) == 0) = false := by simp; omega
    have e1 : lkT v l = (0, 0, k, e) := by unfold lkT; rw [hlk]
    have e2 : Hid (opn v l = ([], 0, e)) := by show _ = _; unfold opn; rw [hlk]
    rw [e1] at HLK
    rw [e2.out]
    clear e1 hlk hs hy he
    go_enter Tryd.func37, Tryd.ntmps37
    go_wp2_with fail
    refine (rokay_any (v : Int) _).mono ?_
    rintro r w1 ⟨rfl, rfl⟩
    rw [E.out]
    go_wp2_with fail
    refine HLK.out.mono ?_
    rintro r w1 ⟨rfl, hb⟩
    have HB := hide hb
    clear hb
    go_wp2
    go_ret3
    exact ⟨_, rfl, World.ownsRow_nil _ _ _ _, HB.out⟩
  | whole f t =>
    obtain ⟨hp1, _, hp3, hp4⟩ := whole_frm hy hlk
    have htn : t + 4 ≤ n := by rw [← hs.1]; exact hp3
    have e1 : lkT v l = (f, t, t + 4, 0) := by unfold lkT; rw [hlk]
    have e2 : Hid (opn v l = ((l.take t).drop f, t + 4, 0)) := by show _ = _; unfold opn; rw [hlk]
    rw [e1] at HLK
    rw [e2.out]
    have hpl : Hid (((l.take t).drop f).length = t - f) := by show _ = _; rw [List.length_drop, List.length_take, hs.1, Nat.min_eq_left (by omega)]
    obtain ⟨ba, oa, rfl, _⟩ := hs.2.2 (by omega)
    have hfc : ¬ (f = cap) := by omega
    have hfc2 : ¬ ((f : Int) = (cap : Int)) := by omega
    clear e1 hlk hs hy hp1 hp3
    go_enter Tryd.func37, Tryd.ntmps37
    go_wp2_with fail
    refine (rokay_any (v : Int) _).mono ?_
    rintro r w1 ⟨rfl, rfl⟩
    rw [E.out]
    go_wp2_with fail
    refine HLK.out.mono ?_
    rintro r w2 ⟨rfl, hb⟩
    have HB := hide hb
    have SG := hide (((HS.out.below hb (Nat.le_refl _)).take (k := t) (by omega)).from hp4)
    clear hb
    go_wp2_with fail
    refine (bytes_any (some ⟨ba, oa + f, none⟩) (t - f) (cap - f) ((l.take t).drop f) w2 SG.out (by omega)).mono ?_
    rintro r w3 ⟨val, rfl, ho, hb⟩
    have HO := hide (own_lower ho (B' := w.heap.size) HB.out.size)
    have HB3 : Hid (Below w.heap.size w w3) := HB.out.trans (hb.mono HB.out.size)
    clear ho hb
    go_wp2
    go_ret3
    exact ⟨_, by go_num, HO.out, HB3.out⟩

/-- What Open answers, at any version. -/
def opR (v : Int) (l : List Int) : List Int × Nat × Nat := if verB v = true then opn v.toNat l else ([], 0, 2)
theorem opR_cases (v : Int) (l : List Int) : (verB v = false ∧ opR v l = ([], 0, 2)) ∨ (∃ u : Nat, v = (u : Int) ∧ u ≤ 2 ∧ opR v l = opn u l) := by
  cases hv : verB v with
  | false => exact .inl ⟨rfl, by unfold opR; rw [hv]; rfl⟩
  | true =>
    have h0 : 0 ≤ v ∧ v ≤ 2 := by unfold verB at hv; simpa using hv
    obtain ⟨u, rfl⟩ := Int.eq_ofNat_of_zero_le h0.1
    exact .inr ⟨u, rfl, by omega, by unfold opR; rw [hv, if_pos rfl]; rfl⟩
def OpPost (w : World) (v : Int) (l : List Int) (r : Ending) (w' : World) : Prop := ∃ val, r = .returned (.tuple #[val, .int .i64 ((opR v l).2.1 : Int), .int .i64 ((opR v l).2.2 : Int)]) ∧ w'.ownsRow w.heap.size 5 1 val (opR v l).1.length ((opR v l).1.map (Value.int .u8)) ∧ Below w.heap.size w w'
theorem open_all (v : Int) (sa : Option Addr) (n cap : Nat) (l : List Int) (a : Nat → Addr) (w : World) (hs : Seg w sa n l) (hnc : n ≤ cap) (hc : cap ≤ maxLen) (hy : Byt l) (hH : Hal w) (hE : Errs w a) :
    Calls Tryd.prog 21 #[.int .i64 v, .slice sa n cap] w fun r w' => OpPost w v l r w' := by
  unfold OpPost
  rcases opR_cases v l with ⟨hv, e⟩ | ⟨u, rfl, hu, e⟩
  · rw [e]
    refine (open_ver v sa n cap w hv).mono ?_
    rintro r w' ⟨rfl, rfl⟩
    exact ⟨_, rfl, World.ownsRow_nil _ _ _ _, Below.refl _ _⟩
  · rw [e]
    exact open_any u sa n cap l a w hu hs hnc hc hy hH hE
theorem ropen_all (v : Int) (sa : Option Addr) (n cap : Nat) (l : List Int) (w : World) (hs : Seg w sa n l) (hnc : n ≤ cap) (hc : cap ≤ maxLen) (hy : Byt l) (hlen : n ≤ 140737488355328) :
    Calls Tryd.prog 37 #[.int .i64 v, .slice sa n cap] w fun r w' => OpPost w v l r w' := by
  unfold OpPost
  rcases opR_cases v l with ⟨hv, e⟩ | ⟨u, rfl, hu, e⟩
  · rw [e]
    refine (ropen_ver v sa n cap w hv).mono ?_
    rintro r w' ⟨rfl, rfl⟩
    exact ⟨_, rfl, World.ownsRow_nil _ _ _ _, Below.refl _ _⟩
  · rw [e]
    exact ropen_any u sa n cap l w hu hs hnc hc hy hlen
end Go.Proofs.YtnlohbfolphafaaDoor
