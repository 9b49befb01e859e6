import Derived.Test.YtibfdoggolkljaaGreatDoorJ14
set_option maxHeartbeats 1000000
set_option maxRecDepth 100000
namespace Go.Proofs.YtibfdoggolkljaaGreatDoor
open Go.RowKit Go.Wire1
theorem shL_take : ∀ x y : List UInt8, x.take (shL x y) = y.take (shL x y)
 | [], _ => by simp [shL]
 | _ :: _, [] => by simp [shL]
 | a :: x, b :: y => by
  simp only [shL]
  split
  ·rename_i h
   rw [List.take_succ_cons, List.take_succ_cons, shL_take x y, h]
  ·simp
theorem shared_join (k k2 : ByteArray) : k.extract 0 (shared k k2) ++ k2.extract (shared k k2) k2.size = k2 := by
 apply ByteArray.ext
 apply Array.toList_inj.1
 rw [data_cut]
 have e : (k2.extract (shared k k2) k2.size).data.toList = k2.data.toList.drop (shared k k2) := by
  rw [ByteArray.data_extract, Array.toList_extract, List.extract_eq_take_drop]
  rw [List.take_of_length_le]
  rw [List.length_drop, Array.length_toList]
  exact Nat.le_refl _
 rw [e, show shared k k2 = shL k.data.toList k2.data.toList from rfl, shL_take, List.take_append_drop]
theorem ext_size (k2 : ByteArray) (i : Nat) : (k2.extract i k2.size).size = k2.size - i := by
 rw [ByteArray.size_extract]; omega
theorem sKey2_full {kind : Int} {key k2 : ByteArray} {l r : List Int} {k : Nat} (hk : key.size ≤ 64) (h1 : 1 ≤ k2.size) (h2 : k2.size ≤ 64) (hp : isPairB kind key k2 = true)
  (h : l.drop k = (enc (shared key k2) ++ ptx (k2.extract (shared key k2) k2.size)) ++ r) : sKey2 kind key l ⟨k, 0, 0⟩ = (k2, ⟨k + (enc (shared key k2) ++ ptx (k2.extract (shared key k2) k2.size)).length, 0, 0⟩) := by
 have hs := shared_le key k2
 rw [List.append_assoc] at h
 have eA : k2A key l ⟨k, 0, 0⟩ = (shared key k2, ⟨k + (enc (shared key k2)).length, 0, 0⟩) := sNum_full hs.1 (by omega) h
 have ez := ext_size k2 (shared key k2)
 have eT : k2T key l ⟨k, 0, 0⟩ = (k2.extract (shared key k2) k2.size, ⟨k + (enc (shared key k2)).length + (ptx (k2.extract (shared key k2) k2.size)).length, 0, 0⟩) := by
  unfold k2T
  rw [eA]
  exact sTxt_full (by simp only; omega) (by simp only; omega) (by omega) (drop_app h)
 have eK : k2K key l ⟨k, 0, 0⟩ = k2 := by unfold k2K; rw [eA, eT]; exact shared_join key k2
 have eF1 : k2F1 key l ⟨k, 0, 0⟩ = 0 := by unfold k2F1; rw [eK, eA, eT, if_neg (Nat.lt_irrefl _)]
 have eF : k2F kind key l ⟨k, 0, 0⟩ = 0 := by unfold k2F; rw [eK, if_pos hp, eF1]
 unfold sKey2
 rw [eK, eT, eF, zL, Nat.add_assoc]
theorem sKey2_cut {kind : Int} {key k2 : ByteArray} {l : List Int} {k j : Nat} (hk : key.size ≤ 64) (h1 : 1 ≤ k2.size) (h2 : k2.size ≤ 64)
  (h : l.drop k = (enc (shared key k2) ++ ptx (k2.extract (shared key k2) k2.size)).take j) (hj : j < (enc (shared key k2) ++ ptx (k2.extract (shared key k2) k2.size)).length) : Bad (sKey2 kind key l ⟨k, 0, 0⟩).2 := by
 have hs := shared_le key k2
 have ez := ext_size k2 (shared key k2)
 apply k2_bad
 rcases cut_at h with ⟨hc, hh⟩ | ⟨hc, hh⟩
 ·exact sTxt_bad (sNum_cut hh hc)
 ·have eA : k2A key l ⟨k, 0, 0⟩ = (shared key k2, ⟨k + (enc (shared key k2)).length, 0, 0⟩) := sNum_full hs.1 (by omega) hh
  unfold k2T
  rw [eA]
  rw [zL] at hj
  exact sTxt_cut (t := k2.extract (shared key k2) k2.size) (j := j - (enc (shared key k2)).length) (by simp only; omega) (by simp only; omega) (by omega) (drop_app hh) (by omega)
theorem mostV_le (v : Int) : mostV v ≤ 65536 := by unfold mostV; split <;> omega
theorem sTail_full {v : Int} {c : Cm} {cl rq : Nat} {l r : List Int} {k : Nat} (h1 : 1 ≤ c.kind) (h9 : c.kind < 9) (hk : c.key.size ≤ 64) (hn1 : -9223372036854775808 ≤ c.n) (hn2 : c.n ≤ 9223372036854775807) (ht : TailOk v c)
  (h : l.drop k = restC c ++ r) : sTail v c.kind cl rq c.key l ⟨k, 0, 0⟩ = (⟨c.kind, cl, rq, c.key, c.key2, c.val, c.old, c.n⟩, ⟨k + (restC c).length, 0, 0⟩) := by
 obtain ⟨kind, client, req, key, key2, val, old, n⟩ := c
 obtain ⟨t1, t2, t3, t4⟩ := ht
 have hm := mostV_le v
 simp only at h1 h9 hk hn1 hn2 t1 t2 t3 t4 h ⊢
 by_cases a : 6 ≤ kind
 ·rw [if_pos a] at t1
  rw [if_neg (show ¬ (kind = 2 ∨ kind = 5) by omega)] at t2
  rw [if_neg (show ¬ kind = 5 by omega)] at t3
  rw [if_neg (show ¬ kind = 4 by omega)] at t4
  subst t2 t3 t4
  have er : restC ⟨kind, client, req, key, key2, ⟨#[]⟩, ⟨#[]⟩, 0⟩ = enc (shared key key2) ++ ptx (key2.extract (shared key key2) key2.size) := by unfold restC; rw [if_pos a]
  rw [er] at h ⊢
  unfold sTail
  rw [if_pos (by omega), sKey2_full hk t1.1 t1.2.1 t1.2.2 h]
 ·rw [if_neg a] at t1
  subst t1
  by_cases b5 : kind = 5
  ·subst b5
   rw [if_pos (Or.inr rfl)] at t2
   rw [if_pos rfl] at t3
   rw [if_neg (by decide)] at t4
   subst t4
   have er : restC ⟨5, client, req, key, ⟨#[]⟩, val, old, 0⟩ = ptx old ++ ptx val := rfl
   rw [er] at h ⊢
   rw [List.append_assoc] at h
   have e1 : sTxt 0 (mostV v : Nat) 47 l ⟨k, 0, 0⟩ = (old, ⟨k + (ptx old).length, 0, 0⟩) := sTxt_full (by omega) (by omega) (by omega) h
   have e2 : sTxt 0 (mostV v : Nat) 46 l ⟨k + (ptx old).length, 0, 0⟩ = (val, ⟨k + (ptx old).length + (ptx val).length, 0, 0⟩) := sTxt_full (by omega) (by omega) (by omega) (drop_app h)
   unfold sTail
   rw [if_neg (by decide), if_pos rfl, e1]
   simp only
   rw [e2, zL, Nat.add_assoc]
  ·rw [if_neg b5] at t3
   subst t3
   by_cases b2 : kind = 2
   ·subst b2
    rw [if_pos (Or.inl rfl)] at t2
    rw [if_neg (by decide)] at t4
    subst t4
    have er : restC ⟨2, client, req, key, ⟨#[]⟩, val, ⟨#[]⟩, 0⟩ = ptx val := rfl
    rw [er] at h ⊢
    unfold sTail
    rw [if_neg (by decide), if_neg (by decide), if_pos rfl, sTxt_full (by omega) (by omega) (by omega) h]
   ·rw [if_neg (by omega)] at t2
    subst t2
    by_cases b4 : kind = 4
    ·subst b4
     have er : restC ⟨4, client, req, key, ⟨#[]⟩, ⟨#[]⟩, ⟨#[]⟩, n⟩ = enc (zig n) := rfl
     rw [er] at h ⊢
     unfold sTail
     rw [if_neg (by decide), if_neg (by decide), if_neg (by decide), if_pos rfl, sInt_full (zig_lt n hn1 hn2) h]
    ·rw [if_neg b4] at t4
     subst t4
     have er : restC ⟨kind, client, req, key, ⟨#[]⟩, ⟨#[]⟩, ⟨#[]⟩, 0⟩ = [] := by unfold restC; rw [if_neg a, if_neg b5, if_neg b2, if_neg b4]
     rw [er]
     unfold sTail
     rw [if_neg (by omega), if_neg b5, if_neg b2, if_neg b4]
     rfl
theorem sTail_cut {v : Int} {c : Cm} {cl rq : Nat} {l : List Int} {k j : Nat} (h1 : 1 ≤ c.kind) (h9 : c.kind < 9) (hk : c.key.size ≤ 64) (ht : TailOk v c)
  (h : l.drop k = (restC c).take j) (hj : j < (restC c).length) : Bad (sTail v c.kind cl rq c.key l ⟨k, 0, 0⟩).2 := by
 obtain ⟨kind, client, req, key, key2, val, old, n⟩ := c
 obtain ⟨t1, t2, t3, t4⟩ := ht
 have hm := mostV_le v
 simp only at h1 h9 hk t1 t2 t3 t4 h hj ⊢
 by_cases a : 6 ≤ kind
 ·rw [if_pos a] at t1
  have er : restC ⟨kind, client, req, key, key2, val, old, n⟩ = enc (shared key key2) ++ ptx (key2.extract (shared key key2) key2.size) := by unfold restC; rw [if_pos a]
  rw [er] at h hj
  unfold sTail
  rw [if_pos (by omega)]
  exact sKey2_cut hk t1.1 t1.2.1 h hj
 ·by_cases b5 : kind = 5
  ·subst b5
   rw [if_pos (Or.inr rfl)] at t2
   rw [if_pos rfl] at t3
   have er : restC ⟨5, client, req, key, key2, val, old, n⟩ = ptx old ++ ptx val := rfl
   rw [er] at h hj
   unfold sTail
   rw [if_neg (by decide), if_pos rfl]
   rcases cut_at h with ⟨hc, hh⟩ | ⟨hc, hh⟩
   ·exact sTxt_bad (sTxt_cut (by omega) (by omega) (by omega) hh hc)
   ·have e1 : sTxt 0 (mostV v : Nat) 47 l ⟨k, 0, 0⟩ = (old, ⟨k + (ptx old).length, 0, 0⟩) := sTxt_full (by omega) (by omega) (by omega) hh
    rw [e1]
    rw [zL] at hj
    exact sTxt_cut (t := val) (j := j - (ptx old).length) (by omega) (by omega) (by omega) (drop_app hh) (by omega)
  ·by_cases b2 : kind = 2
   ·subst b2
    rw [if_pos (Or.inl rfl)] at t2
    have er : restC ⟨2, client, req, key, key2, val, old, n⟩ = ptx val := rfl
    rw [er] at h hj
    unfold sTail
    rw [if_neg (by decide), if_neg (by decide), if_pos rfl]
    exact sTxt_cut (by omega) (by omega) (by omega) h hj
   ·by_cases b4 : kind = 4
    ·subst b4
     have er : restC ⟨4, client, req, key, key2, val, old, n⟩ = enc (zig n) := rfl
     rw [er] at h hj
     unfold sTail
     rw [if_neg (by decide), if_neg (by decide), if_neg (by decide), if_pos rfl]
     exact sInt_cut h hj
    ·have er : restC ⟨kind, client, req, key, key2, val, old, n⟩ = [] := by unfold restC; rw [if_neg a, if_neg b5, if_neg b2, if_neg b4]
     rw [er] at hj
     simp at hj
theorem sKind_full {v x : Int} {l r : List Int} (hx : isKd v x = true) (h : l = x :: r) : sKind v l ⟨0, 0, 0⟩ = (x, ⟨1, 0, 0⟩) := by
 have hr := isKd_range hx
 have e : gB 255 l ⟨0, 0, 0⟩ = (x, 1, 0) := by
  unfold gB
  subst h
  simp only [if_true, List.length_cons]
  rw [if_neg (by omega), if_neg (by simp; omega)]
  rfl
 unfold sKind
 rw [e]
 simp only [hx, if_true, note_none]
theorem isVer_of {v : Int} (h : v = 1 ∨ v = 2) : isVer v = true := by rcases h with rfl | rfl <;> rfl
theorem sCmd_full {v : Int} {c : Cm} {r : List Int} (h : chk v c = 0) (hn1 : -9223372036854775808 ≤ c.n) (hn2 : c.n ≤ 9223372036854775807) : sCmd v (encC c ++ r) ⟨0, 0, 0⟩ = (c, ⟨(encC c).length, 0, 0⟩) := by
 have hc := chk_zero h
 have hs := sound_of h
 have hr := isKd_range hc.2.1
 by_cases h0 : c.kind = 0
 ·have hz := noop_of h h0
  have hk := hc.2.1
  rw [hz] at hk ⊢
  have e : sKind v (encC ⟨0, 0, 0, ⟨#[]⟩, ⟨#[]⟩, ⟨#[]⟩, ⟨#[]⟩, 0⟩ ++ r) ⟨0, 0, 0⟩ = (0, ⟨1, 0, 0⟩) := sKind_full hk rfl
  unfold sCmd
  rw [e]
  rfl
 ·have ht := tailOk_of h h0
  have hcl := hs.client h0
  have hrq := hs.req h0
  have hky := hs.key h0
  have eE : encC c ++ r = c.kind :: (enc c.client.toNat ++ (enc c.req.toNat ++ (ptx c.key ++ (restC c ++ r)))) := by unfold encC; rw [if_neg h0]; simp
  have eL : (encC c).length = 1 + (enc c.client.toNat).length + (enc c.req.toNat).length + (ptx c.key).length + (restC c).length := by unfold encC; rw [if_neg h0]; simp; omega
  rw [eL, eE]
  generalize hL : c.kind :: (enc c.client.toNat ++ (enc c.req.toNat ++ (ptx c.key ++ (restC c ++ r)))) = L
  have e0 : sKind v L ⟨0, 0, 0⟩ = (c.kind, ⟨1, 0, 0⟩) := sKind_full hc.2.1 hL.symm
  have d1 : L.drop 1 = enc c.client.toNat ++ (enc c.req.toNat ++ (ptx c.key ++ (restC c ++ r))) := by rw [← hL]; rfl
  have e1 : sNum 65535 42 L ⟨1, 0, 0⟩ = (c.client.toNat, ⟨1 + (enc c.client.toNat).length, 0, 0⟩) := sNum_full (by omega) (by omega) d1
  have d2 := drop_app d1
  have e2 : sNum 1073741824 43 L ⟨1 + (enc c.client.toNat).length, 0, 0⟩ = (c.req.toNat, ⟨1 + (enc c.client.toNat).length + (enc c.req.toNat).length, 0, 0⟩) := sNum_full (by omega) (by omega) d2
  have d3 := drop_app d2
  have e3 : sTxt 1 64 44 L ⟨1 + (enc c.client.toNat).length + (enc c.req.toNat).length, 0, 0⟩ = (c.key, ⟨1 + (enc c.client.toNat).length + (enc c.req.toNat).length + (ptx c.key).length, 0, 0⟩) := sTxt_full (by omega) (by omega) (by omega) d3
  have d4 := drop_app d3
  have e4 := sTail_full (v := v) (c := c) (cl := c.client.toNat) (rq := c.req.toNat) (by omega) (by omega) hky.2 hn1 hn2 ht d4
  unfold sCmd
  rw [e0]
  simp only
  rw [if_pos ⟨trivial, h0⟩]
  unfold sAll
  rw [e1]
  simp only
  rw [e2]
  simp only
  rw [e3]
  simp only
  rw [e4]
  have q1 : ((c.client.toNat : Nat) : Int) = c.client := by omega
  have q2 : ((c.req.toNat : Nat) : Int) = c.req := by omega
  rw [q1, q2]
theorem sCmd_cut {v : Int} {c : Cm} {j : Nat} (h : chk v c = 0) (hj : j < (encC c).length) : (sCmd v ((encC c).take j) ⟨0, 0, 0⟩).2.ft = 11 := by
 have hc := chk_zero h
 have hs := sound_of h
 have hr := isKd_range hc.2.1
 cases j with
 | zero =>
  have e : gB 255 ((encC c).take 0) ⟨0, 0, 0⟩ = (0, 0, 11) := by rw [List.take_zero]; rfl
  have hk : isKd v 0 = true := by rcases hc.1 with rfl | rfl <;> decide
  have e2 : sKind v ((encC c).take 0) ⟨0, 0, 0⟩ = (0, ⟨0, 11, 11⟩) := by
   unfold sKind
   rw [e]
   simp only [hk, if_true, note_short]
  unfold sCmd
  rw [e2]
  rfl
 | succ j =>
  have h0 : c.kind ≠ 0 := fun h0 => by
   have : (encC c).length = 1 := by unfold encC; rw [if_pos h0]; rfl
   omega
  have ht := tailOk_of h h0
  have hcl := hs.client h0
  have hrq := hs.req h0
  have hky := hs.key h0
  have eE : encC c = c.kind :: (enc c.client.toNat ++ (enc c.req.toNat ++ (ptx c.key ++ restC c))) := by unfold encC; rw [if_neg h0]; simp
  rw [eE, List.length_cons] at hj
  rw [eE, List.take_succ_cons]
  generalize hL : c.kind :: (enc c.client.toNat ++ (enc c.req.toNat ++ (ptx c.key ++ restC c))).take j = L
  have e0 : sKind v L ⟨0, 0, 0⟩ = (c.kind, ⟨1, 0, 0⟩) := sKind_full hc.2.1 hL.symm
  have d1 : L.drop 1 = (enc c.client.toNat ++ (enc c.req.toNat ++ (ptx c.key ++ restC c))).take j := by rw [← hL]; rfl
  simp only [zL] at hj
  suffices hb : Bad (sCmd v L ⟨0, 0, 0⟩).2 from hb.2
  unfold sCmd
  rw [e0]
  simp only
  rw [if_pos ⟨trivial, h0⟩]
  unfold sAll
  rcases cut_at d1 with ⟨g1, f1⟩ | ⟨g1, f1⟩
  ·exact sTail_bad (sTxt_bad (sNum_bad (sNum_cut f1 g1)))
  ·have e1 : sNum 65535 42 L ⟨1, 0, 0⟩ = (c.client.toNat, ⟨1 + (enc c.client.toNat).length, 0, 0⟩) := sNum_full (by omega) (by omega) f1
   rw [e1]
   simp only
   rcases cut_at (drop_app f1) with ⟨g2, f2⟩ | ⟨g2, f2⟩
   ·exact sTail_bad (sTxt_bad (sNum_cut f2 g2))
   ·have e2 : sNum 1073741824 43 L ⟨1 + (enc c.client.toNat).length, 0, 0⟩ = (c.req.toNat, ⟨1 + (enc c.client.toNat).length + (enc c.req.toNat).length, 0, 0⟩) := sNum_full (by omega) (by omega) f2
    rw [e2]
    simp only
    rcases cut_at (drop_app f2) with ⟨g3, f3⟩ | ⟨g3, f3⟩
    ·exact sTail_bad (sTxt_cut (by omega) (by omega) (by omega) f3 g3)
    ·have e3 : sTxt 1 64 44 L ⟨1 + (enc c.client.toNat).length + (enc c.req.toNat).length, 0, 0⟩ = (c.key, ⟨1 + (enc c.client.toNat).length + (enc c.req.toNat).length + (ptx c.key).length, 0, 0⟩) := sTxt_full (by omega) (by omega) (by omega) f3
     rw [e3]
     simp only
     exact sTail_cut (by omega) (by omega) hky.2 ht (drop_app f3) (by omega)
theorem ptx_le {s : ByteArray} (h : s.size ≤ 65536) : (ptx s).length ≤ 10 + s.size := by
 unfold ptx
 rw [zL, tx_len]
 have := enc_le s.size (by omega)
 omega
theorem encC_le {v : Int} {c : Cm} (h : chk v c = 0) : (encC c).length ≤ 131281 := by
 have hc := chk_zero h
 have hs := sound_of h
 have hr := isKd_range hc.2.1
 by_cases h0 : c.kind = 0
 ·have : (encC c).length = 1 := by unfold encC; rw [if_pos h0]; rfl
  omega
 ·have ht := tailOk_of h h0
  have hcl := hs.client h0
  have hrq := hs.req h0
  have hky := hs.key h0
  have hm := mostV_le v
  have a1 := enc_le c.client.toNat (by omega)
  have a2 := enc_le c.req.toNat (by omega)
  have a3 := ptx_le (s := c.key) (by omega)
  have eL : (encC c).length = 1 + (enc c.client.toNat).length + (enc c.req.toNat).length + (ptx c.key).length + (restC c).length := by unfold encC; rw [if_neg h0]; simp; omega
  have a4 : (restC c).length ≤ 131092 := by
   obtain ⟨t1, t2, t3, t4⟩ := ht
   unfold restC
   split
   ·rename_i q
    rw [if_pos q] at t1
    have s1 := shared_le c.key c.key2
    have s2 := ext_size c.key2 (shared c.key c.key2)
    have b1 := enc_le (shared c.key c.key2) (by omega)
    have b2 := ptx_le (s := c.key2.extract (shared c.key c.key2) c.key2.size) (by omega)
    rw [zL]
    omega
   ·split
    ·rename_i q
     rw [if_pos (Or.inr q)] at t2
     rw [if_pos q] at t3
     have b1 := ptx_le (s := c.old) (by omega)
     have b2 := ptx_le (s := c.val) (by omega)
     rw [zL]
     omega
    ·split
     ·rename_i q
      rw [if_pos (Or.inl q)] at t2
      have b2 := ptx_le (s := c.val) (by omega)
      omega
     ·split
      ·have : ∀ x, (enc x).length ≤ 10 := fun x => by
        have : ∀ f y, (encF f y).length ≤ f := fun f => by
         induction f with
         | zero => intro y; simp [encF]
         | succ g ih => intro y; simp only [encF]; split <;> simp; exact ih _
        exact this 10 x
       have := this (zig c.n)
       omega
      ·simp
  omega
theorem decC_full {v : Int} {c : Cm} {r : List Int} (h : chk v c = 0) (hn1 : -9223372036854775808 ≤ c.n) (hn2 : c.n ≤ 9223372036854775807) : decC v (encC c ++ r) = (c, (encC c).length, 0) := by
 have hl := encC_le h
 unfold decC
 rw [if_pos (isVer_of (chk_zero h).1), List.take_append, List.take_of_length_le hl, sCmd_full h hn1 hn2]
 rfl
theorem decC_cut {v : Int} {c : Cm} {j : Nat} (h : chk v c = 0) (hj : j < (encC c).length) : decC v ((encC c).take j) = (zeroC, 0, 11) := by
 have hl := encC_le h
 have hq := sCmd_cut h hj
 unfold decC
 rw [if_pos (isVer_of (chk_zero h).1), List.take_take, Nat.min_eq_right (by omega), if_neg (by rw [hq]; decide), hq]
open Go.RowKit Go.Wire1
def enY : Except Nat (Int × Nat) → Int
 | .ok (y, _) => y
 | .error _ => 0
def enM : Except Nat (Int × Nat) → Nat
 | .ok (_, m) => m
 | .error _ => 0
def enE : Except Nat (Int × Nat) → Nat
 | .ok _ => 0
 | .error e => e
theorem entryFrom_any (q : Int) (m cap : Nat) (sa : Option Addr) (l : List Int) (a : Nat → Addr) (w : World) (hq : 0 ≤ q ∧ q ≤ 1048576) (hs : Seg w sa m l) (hy : Byt l) (he : Errs w a) :
  Calls Tryz.prog 104 #[.int .i64 q, .slice sa m cap] w fun e w' => e = .returned (.tuple #[.int .i64 (enY (entry q l)), .int .i64 (enM (entry q l) : Int), .int .i64 (enE (entry q l) : Int)]) ∧ Below w.heap.size w w' := by
 have HS : Hid (Seg w sa m l) := hs
 have HE : Hid (Errs w a) := he
 have HY : Hid (Byt l) := hy
 obtain ⟨R, hR⟩ : ∃ R, Hid (entry q l = R) := ⟨_, rfl⟩
 rw [hR.out]
 clear hs he hy
 cases hd : dec l with
 | error i =>
  have hi3 := dec_err hd
  have HQ : Hid (R = .error (11 + i)) := by show _ = _; rw [← hR.out]; unfold entry; rw [hd]
  have HD : Hid (dec l = .error i) := hd
  have hne : ((11 + (i : Int)) != 0) = true := by rw [bne_iff_ne]; omega
  clear hd hR
  go_enter Tryz.func104, Tryz.ntmps104
  go_wp2_with fail
  refine (getI_bad (Below.refl w.heap.size w) zN HS.out HY.out HE.out HD.out).mono ?_
  rintro e w2 ⟨rfl, hb2, -⟩
  have HB2 : Hid (Below w.heap.size w w2) := hb2
  clear hb2
  go_wp2
  go_ret3
  exact ⟨by rw [HQ.out]; rfl, HB2.out⟩
 | ok p =>
  obtain ⟨u, k⟩ := p
  have hu := dec_lt HY.out hd
  have hub := unzig_bd u hu
  have HD : Hid (dec l = .ok (u, k)) := hd
  have HF : Hid (R = if unzig u = 0 then .error 34 else if unzig u < -q ∨ 1048576 - q < unzig u then .error 32 else .ok (q + unzig u, k)) := by show _ = _; rw [← hR.out]; unfold entry; rw [hd]
  clear hd hR hu
  obtain ⟨d, hdd⟩ : ∃ d, Hid (unzig u = d) := ⟨_, rfl⟩
  rw [hdd.out] at HF hub
  by_cases h0 : d = 0
  ·subst h0
   have HQ : Hid (R = .error 34) := by show _ = _; rw [HF.out, if_pos rfl]
   go_enter Tryz.func104, Tryz.ntmps104
   go_wp2_with fail
   refine (getI_ok (Below.refl w.heap.size w) zN HS.out HY.out HE.out HD.out).mono ?_
   rintro e w2 ⟨rfl, hb2, -⟩
   have HB2 : Hid (Below w.heap.size w w2) := hb2
   rw [hdd.out]
   clear hb2
   go_wp2
   go_ret3
   exact ⟨by rw [HQ.out]; rfl, HB2.out⟩
  ·have hz : (d == 0) = false := beq_eq_false_iff_ne.2 h0
   by_cases h1 : d < -q
   ·have HQ : Hid (R = .error 32) := by show _ = _; rw [HF.out, if_neg h0, if_pos (.inl h1)]
    go_enter Tryz.func104, Tryz.ntmps104
    go_wp2_with fail
    refine (getI_ok (Below.refl w.heap.size w) zN HS.out HY.out HE.out HD.out).mono ?_
    rintro e w2 ⟨rfl, hb2, -⟩
    have HB2 : Hid (Below w.heap.size w w2) := hb2
    rw [hdd.out]
    clear hb2 h0
    go_wp2
    go_ret3
    exact ⟨by rw [HQ.out]; rfl, HB2.out⟩
   ·by_cases h2 : 1048576 - q < d
    ·have HQ : Hid (R = .error 32) := by show _ = _; rw [HF.out, if_neg h0, if_pos (.inr h2)]
     go_enter Tryz.func104, Tryz.ntmps104
     go_wp2_with fail
     refine (getI_ok (Below.refl w.heap.size w) zN HS.out HY.out HE.out HD.out).mono ?_
     rintro e w2 ⟨rfl, hb2, -⟩
     have HB2 : Hid (Below w.heap.size w w2) := hb2
     rw [hdd.out]
     clear hb2 h0
     go_wp2
     go_ret3
     exact ⟨by rw [HQ.out]; rfl, HB2.out⟩
    ·have HQ : Hid (R = .ok (q + d, k)) := by show _ = _; rw [HF.out, if_neg h0, if_neg (by omega)]
     go_enter Tryz.func104, Tryz.ntmps104
     go_wp2_with fail
     refine (getI_ok (Below.refl w.heap.size w) zN HS.out HY.out HE.out HD.out).mono ?_
     rintro e w2 ⟨rfl, hb2, -⟩
     have HB2 : Hid (Below w.heap.size w w2) := hb2
     rw [hdd.out]
     clear hb2 h0
     go_wp2
     go_ret3
     exact ⟨by rw [HQ.out]; rfl, HB2.out⟩
theorem entryFrom_res {q : Int} {m cap : Nat} {sa : Option Addr} {l : List Int} {a : Nat → Addr} {w w0 : World} {B : Nat} (hb : Below B w0 w) (hB : B ≤ w0.heap.size) (hq : 0 ≤ q ∧ q ≤ 1048576) (hs : Seg w sa m l) (hy : Byt l) (he : Errs w a) {r : Except Nat (Int × Nat)} (hr : entry q l = r) :
  Calls Tryz.prog 104 #[.int .i64 q, .slice sa m cap] w fun e w' => e = .returned (.tuple #[.int .i64 (enY r), .int .i64 (enM r : Int), .int .i64 (enE r : Int)]) ∧ Below B w0 w' ∧ Below w.heap.size w w' :=
 (entryFrom_any q m cap sa l a w hq hs hy he).mono fun e w' ⟨h1, h2⟩ => by rw [hr] at h1; exact ⟨h1, hb.on h2 hB, h2⟩
end Go.Proofs.YtibfdoggolkljaaGreatDoor
