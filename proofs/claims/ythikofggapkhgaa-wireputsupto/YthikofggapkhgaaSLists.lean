/- The contract of SameLists over two rows of our own with the same lists. -/
import Derived.Test.YthikofggapkhgaaLRows
import Derived.Test.YthikofggapkhgaaSame
import Derived.Deep.RegionHeld3
namespace Go.Proofs.Ythikofggapkhgaa
open Go.RowKit Go.Wire1

set_option maxHeartbeats 1000000 in
set_option maxRecDepth 100000 in
theorem sameLists_any (B : Nat) (v u : Value) (gs ws : List PL) (w : World) (hg : LRows w B v gs) (hu : LRows w B u ws) (hl : gs.length = ws.length) (he : ∀ t, t < gs.length → (gs.getD t plZ).L = (ws.getD t plZ).L) :
    Calls Try.prog 13 #[v, u] w fun e w' => e = .returned (.bool true) ∧ ∃ q, w' = w.drewN q := by
  obtain ⟨ga, gc, rfl⟩ := hg.shape
  obtain ⟨ua, uc, rfl⟩ := hu.shape
  have hlen := hg.len
  unfold maxLen at hlen
  obtain ⟨i, hi⟩ : ∃ i, Hid (gs.length = i) := ⟨_, hide rfl⟩
  have hi' : Hid (ws.length = i) := by rw [← hl]; exact hi
  have HG := hide hg
  have HU := hide hu
  have HE : Hid (∀ t, t < i → (gs.getD t plZ).L = (ws.getD t plZ).L) := fun t ht => he t (by rw [hi.out]; exact ht)
  rw [hi.out] at HG hlen ⊢
  rw [hi'.out] at HU ⊢
  clear hg hu hl he
  have hii : (((i : Nat) : Int) != ((i : Nat) : Int)) = false := by simp
  go_enter Try.func13, Try.ntmps13
  go_wp2_with fail
  go_loopw [5] (fun x wr => ∃ (t d : Nat), x = .int .i64 (t : Int) ∧ t ≤ i ∧ wr = w.drewN d) (fun x _ => i - (intOf x).toNat)
  case atStart => exact ⟨0, 0, rfl, by omega, rfl⟩
  case round =>
    obtain ⟨t, d, rfl, ht, rfl⟩ := hrel
    by_cases htl : t < i
    · obtain ⟨gb, rfl, cj, hmj⟩ := (HG.out.drewN d).at (i := t) (by rw [hi.out]; exact htl)
      obtain ⟨ub, rfl, ck, hmk⟩ := (HU.out.drewN d).at (i := t) (by rw [hi'.out]; exact htl)
      have hLL := HE.out t htl
      generalize gs.getD t plZ = P at *
      generalize ws.getD t plZ = Q at *
      obtain ⟨pg, pn, pcap, pL⟩ := P
      obtain ⟨qg, qn, qcap, qL⟩ := Q
      simp only at hLL
      subst hLL
      have cj' : (w.drewN d).cell? ⟨gb, t, none⟩ = some (.slice (some ⟨pg, 0, none⟩) pn pcap) := cj
      have ck' : (w.drewN d).cell? ⟨ub, t, none⟩ = some (.slice (some ⟨qg, 0, none⟩) qn qcap) := ck
      have HMJ : Hid (Seg (w.drewN d) (some ⟨pg, 0, none⟩) pn pL) := hmj.seg
      have HMK : Hid (Seg (w.drewN d) (some ⟨qg, 0, none⟩) qn pL) := hmk.seg
      clear cj ck hmj hmk
      obtain ⟨V, hV⟩ : ∃ V, Hid (w.drewN d = V) := ⟨_, hide rfl⟩
      rw [hV.out] at cj' ck' HMJ HMK ⊢
      have i1 : (0 : Int) ≤ (t : Int) := by omega
      have i2 : (t : Int) < (i : Int) := by omega
      go_wp2_with fail
      go_region_held3 (fun w' => w'.cell? ⟨gb, t, none⟩ = some (.slice (some ⟨pg, 0, none⟩) pn pcap) ∧ w'.cell? ⟨ub, t, none⟩ = some (.slice (some ⟨qg, 0, none⟩) qn qcap)) (go_keep) ((go_at_call 8; refine (same_any _ _ pn qn pcap qcap pL pL _ (by exact HMJ.out) (by exact HMK.out)).mono ?_; rintro e w7 ⟨rfl, z, rfl⟩; rw [same_yes rfl]))
      go_wp2
      go_roundw
      case rel => exact ⟨t + 1, d + (1 + z), by go_num, by omega, by rw [← hV.out]; simp [World.drewN, Nat.add_assoc]⟩
      case measure => simp [intOf]; omega
    · go_wp2
      go_ret
      exact ⟨rfl, d, rfl⟩
end Go.Proofs.Ythikofggapkhgaa
