/- Texts of the proof, joined. -/
import Derived.Test.YtpjdgbhjjknopaaDoorJ29
/- The contract of the scan's command. -/
namespace Go.Proofs.YtpjdgbhjjknopaaDoor
open Go.RowKit Go.Wire1

def sTail (v x : Int) (cl rq : Nat) (ky : ByteArray) (l : List Int) (s : St) : Cm × St :=
  if x = 6 ∨ x = 7 ∨ x = 8 then (⟨x, cl, rq, ky, (sKey2 x ky l s).1, ⟨#[]⟩, ⟨#[]⟩, 0⟩, (sKey2 x ky l s).2)
  else if x = 5 then (⟨x, cl, rq, ky, ⟨#[]⟩, (sTxt 0 (mostV v : Nat) 46 l (sTxt 0 (mostV v : Nat) 47 l s).2).1, (sTxt 0 (mostV v : Nat) 47 l s).1, 0⟩, (sTxt 0 (mostV v : Nat) 46 l (sTxt 0 (mostV v : Nat) 47 l s).2).2)
  else if x = 2 then (⟨x, cl, rq, ky, ⟨#[]⟩, (sTxt 0 (mostV v : Nat) 46 l s).1, ⟨#[]⟩, 0⟩, (sTxt 0 (mostV v : Nat) 46 l s).2)
  else if x = 4 then (⟨x, cl, rq, ky, ⟨#[]⟩, ⟨#[]⟩, ⟨#[]⟩, (sInt l s).1⟩, (sInt l s).2)
  else (⟨x, cl, rq, ky, ⟨#[]⟩, ⟨#[]⟩, ⟨#[]⟩, 0⟩, s)
def sAll (v x : Int) (l : List Int) (s : St) : Cm × St :=
  sTail v x (sNum 65535 42 l s).1 (sNum 1073741824 43 l (sNum 65535 42 l s).2).1 (sTxt 1 64 44 l (sNum 1073741824 43 l (sNum 65535 42 l s).2).2).1 l (sTxt 1 64 44 l (sNum 1073741824 43 l (sNum 65535 42 l s).2).2).2
/-- What a scan reads as a command. -/
def sCmd (v : Int) (l : List Int) (s : St) : Cm × St :=
  if (sKind v l s).2.ft = 0 ∧ (sKind v l s).1 ≠ 0 then sAll v (sKind v l s).1 l (sKind v l s).2
  else (⟨(sKind v l s).1, 0, 0, ⟨#[]⟩, ⟨#[]⟩, ⟨#[]⟩, ⟨#[]⟩, 0⟩, (sKind v l s).2)

theorem refF_ne (e ft : Int) (he : e ≠ 0) : refF e ft ≠ 0 := by
  unfold refF; split
  · exact he
  · assumption
theorem sKind_ok {v : Int} {l : List Int} {s : St} (h : (sKind v l s).2.ft = 0) : isKd v (sKind v l s).1 = true := by
  cases hk : isKd v (sKind v l s).1 with
  | true => rfl
  | false =>
    have : (sKind v l s).2.ft = refF 41 (noteF 41 (gB 255 l s).2.2 s.ft) := by
      show (if isKd v (sKind v l s).1 then _ else _) = _
      rw [hk]; rfl
    rw [this] at h
    exact absurd h (refF_ne _ _ (by decide))
theorem isKd_range {v k : Int} (h : isKd v k = true) : 0 ≤ k ∧ k < 9 := by
  unfold isKd at h
  simp only [Bool.and_eq_true, decide_eq_true_eq] at h
  exact ⟨h.1, h.2.1⟩

theorem command_scn (g b n cap : Nat) (sa : Option Addr) (l : List Int) (a : Nat → Addr) (v : Int) (s : St) (w : World) (hK : Knd w) (h : Scs w g b sa n cap l a s) :
    Calls Tryd.prog 14 #[.pointer (some ⟨g, 0, none⟩), .int .i64 v] w fun e w' => e = .returned (.agg #[.int .i64 (sCmd v l s).1.kind, .int .i64 (sCmd v l s).1.client, .int .i64 (sCmd v l s).1.req, .string (sCmd v l s).1.key, .string (sCmd v l s).1.key2, .string (sCmd v l s).1.val, .string (sCmd v l s).1.old, .int .i64 (sCmd v l s).1.n]) ∧ Turn g b w w' ∧ Scs w' g b sa n cap l a (sCmd v l s).2 := by
  obtain ⟨x, hx⟩ : ∃ x, (sKind v l s).1 = x := ⟨_, rfl⟩
  obtain ⟨s1, hs1⟩ : ∃ s1, (sKind v l s).2 = s1 := ⟨_, rfl⟩
  by_cases h0 : s1.ft = 0
  · by_cases hz : x = 0
    · subst hz
      have e : sCmd v l s = (⟨0, 0, 0, ⟨#[]⟩, ⟨#[]⟩, ⟨#[]⟩, ⟨#[]⟩, 0⟩, s1) := by unfold sCmd; rw [hx, hs1, if_neg (fun q => q.2 rfl)]
      rw [e]
      exact command_noop g b n cap sa l a v s w hK h s1 hx hs1 h0
    · have hr := isKd_range (sKind_ok (by rw [hs1]; exact h0))
      rw [hx] at hr
      have e : sCmd v l s = sAll v x l s1 := by unfold sCmd; rw [hx, hs1, if_pos ⟨h0, hz⟩]
      rw [e]
      have h8 : x = 1 ∨ x = 2 ∨ x = 3 ∨ x = 4 ∨ x = 5 ∨ x = 6 ∨ x = 7 ∨ x = 8 := by omega
      rcases h8 with rfl | rfl | rfl | rfl | rfl | rfl | rfl | rfl
      · exact command_leaf1 g b n cap sa l a v s w hK h s1 hx hs1 h0 _ _ rfl rfl _ _ rfl rfl _ _ rfl rfl
      · exact command_leaf2 g b n cap sa l a v s w hK h s1 hx hs1 h0 _ _ rfl rfl _ _ rfl rfl _ _ rfl rfl _ _ rfl rfl
      · exact command_leaf3 g b n cap sa l a v s w hK h s1 hx hs1 h0 _ _ rfl rfl _ _ rfl rfl _ _ rfl rfl
      · exact command_leaf4 g b n cap sa l a v s w hK h s1 hx hs1 h0 _ _ rfl rfl _ _ rfl rfl _ _ rfl rfl _ _ rfl rfl
      · exact command_leaf5 g b n cap sa l a v s w hK h s1 hx hs1 h0 _ _ rfl rfl _ _ rfl rfl _ _ rfl rfl _ _ rfl rfl _ _ rfl rfl
      · exact command_leaf6 g b n cap sa l a v s w hK h s1 hx hs1 h0 _ _ rfl rfl _ _ rfl rfl _ _ rfl rfl _ _ rfl rfl
      · exact command_leaf7 g b n cap sa l a v s w hK h s1 hx hs1 h0 _ _ rfl rfl _ _ rfl rfl _ _ rfl rfl _ _ rfl rfl
      · exact command_leaf8 g b n cap sa l a v s w hK h s1 hx hs1 h0 _ _ rfl rfl _ _ rfl rfl _ _ rfl rfl _ _ rfl rfl
  · have e : sCmd v l s = (⟨x, 0, 0, ⟨#[]⟩, ⟨#[]⟩, ⟨#[]⟩, ⟨#[]⟩, 0⟩, s1) := by unfold sCmd; rw [hx, hs1, if_neg (fun q => h0 q.1)]
    rw [e]
    exact command_early g b n cap sa l a v s w hK h x s1 hx hs1 h0
end Go.Proofs.YtpjdgbhjjknopaaDoor
