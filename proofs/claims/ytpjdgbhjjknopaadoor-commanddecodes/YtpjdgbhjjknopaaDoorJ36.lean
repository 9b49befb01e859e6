/- Texts of the proof, joined. -/
import Derived.Test.YtpjdgbhjjknopaaDoorJ35
/- The document's own Decode and the program's are one, letter by letter. -/
namespace Go.Proofs.YtpjdgbhjjknopaaDoor
open Go.RowKit Go.Wire1

/-- Both have come to one place, or to one fault. -/
structure Agr (B : Nat) (p : Cm × Nat × Int) (c : Cm) (s : St) : Prop where
  ft : p.2.2 = s.ft
  at0 : p.2.2 = 0 → s = ⟨p.2.1, 0, 0⟩ ∧ p.1 = c ∧ p.2.1 ≤ B ∧ c.key.size ≤ 64
def rcS (v x : Int) (l : List Int) (p : Cm × Nat × Int) : Cm × Nat × Int := if p.2.2 = 0 then rcF v x p.1 l p.2.1 else p
theorem Agr.bad {B B' : Nat} {p : Cm × Nat × Int} {c c' : Cm} {s s' : St} {v x : Int} {l : List Int} (h : Agr B p c s) (hp : p.2.2 ≠ 0) (e : s.ft ≠ 0 → s'.ft = s.ft) : Agr B' (rcS v x l p) c' s' := by
  have e1 : rcS v x l p = p := if_neg hp
  rw [e1]
  exact ⟨h.ft.trans (e (by rw [← h.ft]; exact hp)).symm, fun h0 => absurd h0 hp⟩
section
variable {B M : Nat} {p : Cm × Nat × Int} {c : Cm} {s : St} {l : List Int} (v : Int)
theorem Agr.client (h : Agr B p c s) (hy : Byt l) (hM : B + 10 ≤ M) : Agr (B + 10) (rcS v 99 l p) { c with client := ((sNum 65535 42 (l.take M) s).1 : Nat) } (sNum 65535 42 (l.take M) s).2 := by
  by_cases hp : p.2.2 = 0
  · obtain ⟨rfl, rfl, hb, hk⟩ := h.at0 hp
    obtain ⟨A1, A2⟩ := num_al (l := l) (k := p.2.1) (M := M) 65535 42 hy (by omega)
    have e : rcS v 99 l p = ({ p.1 with client := ((rcU 65535 42 l p.2.1 0).1 : Nat) }, (rcU 65535 42 l p.2.1 0).2) := if_pos hp
    rw [e]
    refine ⟨A1, fun h0 => ?_⟩
    obtain ⟨a1, a2, a3⟩ := A2 (by decide) h0
    rw [a1, a2]
    exact ⟨rfl, rfl, by show (rcU 65535 42 l p.2.1 0).2.1 ≤ _; omega, hk⟩
  · exact h.bad hp sNum_stay
theorem Agr.req (h : Agr B p c s) (hy : Byt l) (hM : B + 10 ≤ M) : Agr (B + 10) (rcS v 114 l p) { c with req := ((sNum 1073741824 43 (l.take M) s).1 : Nat) } (sNum 1073741824 43 (l.take M) s).2 := by
  by_cases hp : p.2.2 = 0
  · obtain ⟨rfl, rfl, hb, hk⟩ := h.at0 hp
    obtain ⟨A1, A2⟩ := num_al (l := l) (k := p.2.1) (M := M) 1073741824 43 hy (by omega)
    have e : rcS v 114 l p = ({ p.1 with req := ((rcU 1073741824 43 l p.2.1 0).1 : Nat) }, (rcU 1073741824 43 l p.2.1 0).2) := if_pos hp
    rw [e]
    refine ⟨A1, fun h0 => ?_⟩
    obtain ⟨a1, a2, a3⟩ := A2 (by decide) h0
    rw [a1, a2]
    exact ⟨rfl, rfl, by show (rcU 1073741824 43 l p.2.1 0).2.1 ≤ _; omega, hk⟩
  · exact h.bad hp sNum_stay
theorem Agr.key (h : Agr B p c s) (hy : Byt l) (hM : B + 74 ≤ M) : Agr (B + 74) (rcS v 107 l p) { c with key := (sTxt 1 64 44 (l.take M) s).1 } (sTxt 1 64 44 (l.take M) s).2 := by
  by_cases hp : p.2.2 = 0
  · obtain ⟨rfl, rfl, hb, hk⟩ := h.at0 hp
    obtain ⟨A1, A2⟩ := txt_al (l := l) (k := p.2.1) (M := M) 1 64 1 64 44 (fun x => by omega) rfl hy (by omega)
    have e : rcS v 107 l p = ({ p.1 with key := (rcT 1 64 44 l p.2.1 0).1 }, (rcT 1 64 44 l p.2.1 0).2) := if_pos hp
    rw [e]
    refine ⟨A1, fun h0 => ?_⟩
    obtain ⟨a1, a2, a3⟩ := A2 (by decide) h0
    rw [a1, a2]
    exact ⟨rfl, rfl, by show (rcT 1 64 44 l p.2.1 0).2.1 ≤ _; omega, rcT_size _ _ _ _ _ _⟩
  · exact h.bad hp sTxt_stay
theorem Agr.key2 (h : Agr B p c s) (hy : Byt l) (hM : B + 84 ≤ M) : Agr (B + 84) (rcS v 106 l p) { c with key2 := (sKey2 c.kind c.key (l.take M) s).1 } (sKey2 c.kind c.key (l.take M) s).2 := by
  by_cases hp : p.2.2 = 0
  · obtain ⟨rfl, rfl, hb, hk⟩ := h.at0 hp
    obtain ⟨A1, A2⟩ := key2_al (l := l) (k := p.2.1) (M := M) p.1.kind p.1.key hk hy (by omega)
    have e : rcS v 106 l p = ({ p.1 with key2 := (rcK p.1.kind p.1.key l p.2.1 0).1 }, (rcK p.1.kind p.1.key l p.2.1 0).2) := if_pos hp
    rw [e]
    refine ⟨A1, fun h0 => ?_⟩
    obtain ⟨a1, a2, a3⟩ := A2 h0
    rw [a1, a2]
    exact ⟨rfl, rfl, by show (rcK p.1.kind p.1.key l p.2.1 0).2.1 ≤ _; omega, hk⟩
  · exact h.bad hp sKey2_stay
theorem Agr.old (h : Agr B p c s) (hy : Byt l) (hM : B + 65546 ≤ M) : Agr (B + 65546) (rcS v 111 l p) { c with old := (sTxt 0 (mostV v : Nat) 47 (l.take M) s).1 } (sTxt 0 (mostV v : Nat) 47 (l.take M) s).2 := by
  have hm := mostV_le v
  by_cases hp : p.2.2 = 0
  · obtain ⟨rfl, rfl, hb, hk⟩ := h.at0 hp
    obtain ⟨A1, A2⟩ := txt_al (l := l) (k := p.2.1) (M := M) 0 (mostV v) 0 (mostV v : Nat) 47 (fun x => by omega) rfl hy (by omega)
    have e : rcS v 111 l p = ({ p.1 with old := (rcT 0 (mostV v) 47 l p.2.1 0).1 }, (rcT 0 (mostV v) 47 l p.2.1 0).2) := if_pos hp
    rw [e]
    refine ⟨A1, fun h0 => ?_⟩
    obtain ⟨a1, a2, a3⟩ := A2 (by decide) h0
    rw [a1, a2]
    exact ⟨rfl, rfl, by show (rcT 0 (mostV v) 47 l p.2.1 0).2.1 ≤ _; omega, hk⟩
  · exact h.bad hp sTxt_stay
theorem Agr.val (h : Agr B p c s) (hy : Byt l) (hM : B + 65546 ≤ M) : Agr (B + 65546) (rcS v 118 l p) { c with val := (sTxt 0 (mostV v : Nat) 46 (l.take M) s).1 } (sTxt 0 (mostV v : Nat) 46 (l.take M) s).2 := by
  have hm := mostV_le v
  by_cases hp : p.2.2 = 0
  · obtain ⟨rfl, rfl, hb, hk⟩ := h.at0 hp
    obtain ⟨A1, A2⟩ := txt_al (l := l) (k := p.2.1) (M := M) 0 (mostV v) 0 (mostV v : Nat) 46 (fun x => by omega) rfl hy (by omega)
    have e : rcS v 118 l p = ({ p.1 with val := (rcT 0 (mostV v) 46 l p.2.1 0).1 }, (rcT 0 (mostV v) 46 l p.2.1 0).2) := if_pos hp
    rw [e]
    refine ⟨A1, fun h0 => ?_⟩
    obtain ⟨a1, a2, a3⟩ := A2 (by decide) h0
    rw [a1, a2]
    exact ⟨rfl, rfl, by show (rcT 0 (mostV v) 46 l p.2.1 0).2.1 ≤ _; omega, hk⟩
  · exact h.bad hp sTxt_stay
theorem Agr.n (h : Agr B p c s) (hy : Byt l) (hM : B + 10 ≤ M) : Agr (B + 10) (rcS v 110 l p) { c with n := (sInt (l.take M) s).1 } (sInt (l.take M) s).2 := by
  by_cases hp : p.2.2 = 0
  · obtain ⟨rfl, rfl, hb, hk⟩ := h.at0 hp
    obtain ⟨A1, A2⟩ := int_al (l := l) (k := p.2.1) (M := M) hy (by omega)
    have e : rcS v 110 l p = ({ p.1 with n := (rcI l p.2.1).1 }, (rcI l p.2.1).2) := if_pos hp
    rw [e]
    refine ⟨A1, fun h0 => ?_⟩
    obtain ⟨a1, a2, a3⟩ := A2 h0
    rw [a1, a2]
    exact ⟨rfl, rfl, by show (rcI l p.2.1).2.1 ≤ _; omega, hk⟩
  · exact h.bad hp sInt_stay
end
/-- The whole of a command of the kind x: what the letters give is what the program's scan gives. -/
theorem agr_all (v x : Int) (l : List Int) (hy : Byt l) (h1 : 1 ≤ x) (h8 : x ≤ 8) :
    Agr 131281 (rcGo v (fldS x) l { zeroC with kind := x } (fldS x).size) (sAll v x (l.take 131281) ⟨1, 0, 0⟩).1 (sAll v x (l.take 131281) ⟨1, 0, 0⟩).2 := by
  have A0 : Agr 1 (({ zeroC with kind := x }, 1, 0) : Cm × Nat × Int) { zeroC with kind := x } ⟨1, 0, 0⟩ := ⟨rfl, fun _ => ⟨rfl, rfl, Nat.le_refl _, by show (0 : Nat) ≤ 64; omega⟩⟩
  have A3 := ((A0.client (M := 131281) v hy (by omega)).req (M := 131281) v hy (by omega)).key (M := 131281) v hy (by omega)
  have up : ∀ {B p c s}, Agr B p c s → B ≤ 131281 → Agr 131281 p c s := fun h hB => ⟨h.ft, fun h0 => by obtain ⟨a, b, c, d⟩ := h.at0 h0; exact ⟨a, b, by omega, d⟩⟩
  have hx : x = 1 ∨ x = 2 ∨ x = 3 ∨ x = 4 ∨ x = 5 ∨ x = 6 ∨ x = 7 ∨ x = 8 := by omega
  rcases hx with rfl | rfl | rfl | rfl | rfl | rfl | rfl | rfl
  · exact up A3 (by omega)
  · exact up (A3.val (M := 131281) v hy (by omega)) (by omega)
  · exact up A3 (by omega)
  · exact up (A3.n (M := 131281) v hy (by omega)) (by omega)
  · exact up ((A3.old (M := 131281) v hy (by omega)).val (M := 131281) v hy (by omega)) (by omega)
  · exact up (A3.key2 (M := 131281) v hy (by omega)) (by omega)
  · exact up (A3.key2 (M := 131281) v hy (by omega)) (by omega)
  · exact up (A3.key2 (M := 131281) v hy (by omega)) (by omega)
/-- The document's own Decode gives what the program's gives. -/
theorem rcD_decC (v : Int) (l : List Int) (hy : Byt l) : rcD v l = decC v l := by
  cases hver : isVer v with
  | false =>
    unfold rcD decC
    rw [hver]; rfl
  | true =>
    have hv : v = 1 ∨ v = 2 := by simpa [isVer] using hver
    cases l with
    | nil =>
      have e : sCmd v (List.take 131281 []) ⟨0, 0, 0⟩ = (⟨0, 0, 0, ⟨#[]⟩, ⟨#[]⟩, ⟨#[]⟩, ⟨#[]⟩, 0⟩, ⟨0, 11, 11⟩) := by rcases hv with rfl | rfl <;> rfl
      unfold rcD decC
      rw [hver, if_pos rfl, if_pos rfl, e]; rfl
    | cons x r =>
      have hxb : 0 ≤ x ∧ x < 256 := hy x (by simp)
      have eL : (x :: r).take 131281 = x :: r.take 131280 := rfl
      cases hk : isKd v x with
      | false =>
        have e1 : gB 255 (x :: r.take 131280) ⟨0, 0, 0⟩ = (x, 1, 0) := by
          unfold gB
          show (if (0 : Int) = 0 then (if (x :: r.take 131280).length ≤ 0 then _ else if 255 < x then _ else _) else _) = _
          rw [if_pos rfl, if_neg (by simp), if_neg (by omega)]; rfl
        have e2 : (sKind v (x :: r.take 131280) ⟨0, 0, 0⟩) = (x, ⟨1, 0, 41⟩) := by
          unfold sKind; rw [e1]
          show (x, (⟨1, 0, if isKd v x then _ else _⟩ : St)) = _
          rw [hk]; rfl
        have e3 : (sCmd v (x :: r.take 131280) ⟨0, 0, 0⟩).2.ft = 41 := by
          unfold sCmd; rw [e2, if_neg (fun q => absurd q.1 (by show ¬ (41 : Int) = 0; decide))]
        unfold rcD decC
        rw [hver, if_pos rfl, if_pos rfl, eL, e3]
        show (if knownR v x then _ else _) = _
        rw [known_eq hv, hk]; rfl
      | true =>
        have e2 := sKind_full (v := v) (x := x) (l := x :: r.take 131280) hk rfl
        have hr := isKd_range hk
        unfold rcD decC
        rw [hver, if_pos rfl, if_pos rfl]
        show (if knownR v x then _ else _) = _
        rw [known_eq hv, hk, if_pos rfl]
        by_cases hz : x = 0
        · subst hz
          have e3 : sCmd v (0 :: r.take 131280) ⟨0, 0, 0⟩ = (⟨0, 0, 0, ⟨#[]⟩, ⟨#[]⟩, ⟨#[]⟩, ⟨#[]⟩, 0⟩, ⟨1, 0, 0⟩) := by
            unfold sCmd; rw [e2, if_neg (fun q => q.2 rfl)]
          rw [eL, e3]; rfl
        · have e3 : sCmd v ((x :: r).take 131281) ⟨0, 0, 0⟩ = sAll v x ((x :: r).take 131281) ⟨1, 0, 0⟩ := by
            rw [eL]; unfold sCmd; rw [e2, if_pos ⟨rfl, hz⟩]
          rw [e3]
          have A := agr_all v x (x :: r) hy (by omega) (by omega)
          by_cases h0 : (rcGo v (fldS x) (x :: r) { zeroC with kind := x } (fldS x).size).2.2 = 0
          · obtain ⟨a1, a2, _, _⟩ := A.at0 h0
            have h0' := h0
            rw [A.ft] at h0'
            rw [if_pos h0, if_pos h0', a1, ← a2]
            exact Prod.ext rfl (Prod.ext rfl h0)
          · have h0' := h0
            rw [A.ft] at h0'
            rw [if_neg h0, if_neg h0', A.ft]
end Go.Proofs.YtpjdgbhjjknopaaDoor
