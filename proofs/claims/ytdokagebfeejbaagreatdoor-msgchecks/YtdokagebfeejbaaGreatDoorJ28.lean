/- Texts of the proof, joined. -/
import Derived.Test.YtdokagebfeejbaaGreatDoorRows
import Derived.Test.YtdokagebfeejbaaGreatDoorJ27
import Derived.Test.YtdokagebfeejbaaGreatDoorJ03
import Derived.WalkKit
import Derived.WalkLawsBesides
import Derived.Deep.RegionHeld3
/- The contracts of the document's own known, fields, has, number, text, second, most, first. -/
namespace Go.Proofs.YtdokagebfeejbaaGreatDoor
open Go.RowKit Go.Wire1

set_option maxHeartbeats 400000 in
set_option maxRecDepth 100000 in
theorem rknown_any (v kind : Int) (w : World) :
    Calls Tryz.prog 45 #[.int .i64 v, .int .i64 kind] w fun e w' => e = .returned (.bool (knownR v kind)) ∧ w = w' := by
  by_cases hv : v = 1
  · subst hv
    by_cases h0 : 0 ≤ kind
    · have HR : Hid (knownR 1 kind = decide (kind ≤ 5)) := by simp [Hid, knownR, h0]
      go_enter Tryz.func45, Tryz.ntmps45
      go_wp2
      go_ret
      exact ⟨by rw [HR.out]; rfl, rfl⟩
    · have HR : Hid (knownR 1 kind = false) := by simp [Hid, knownR, h0]
      go_enter Tryz.func45, Tryz.ntmps45
      go_wp2
      go_ret
      exact ⟨by rw [HR.out]; first | rfl | (simp; omega), rfl⟩
  · have g1 : (v == 1) = false := by simpa using hv
    by_cases h0 : 0 ≤ kind
    · have HR : Hid (knownR v kind = decide (kind ≤ 8)) := by simp [Hid, knownR, h0, hv]
      clear hv
      go_enter Tryz.func45, Tryz.ntmps45
      go_wp2
      go_ret
      exact ⟨by rw [HR.out]; rfl, rfl⟩
    · have HR : Hid (knownR v kind = false) := by simp [Hid, knownR, h0]
      clear hv
      go_enter Tryz.func45, Tryz.ntmps45
      go_wp2
      go_ret
      exact ⟨by rw [HR.out]; first | rfl | (simp; omega), rfl⟩

set_option maxHeartbeats 400000 in
set_option maxRecDepth 100000 in
theorem rmost_any (v : Int) (w : World) :
    Calls Tryz.prog 50 #[.int .i64 v] w fun e w' => e = .returned (.int .i64 (mostV v : Nat)) ∧ w = w' := by
  by_cases h1 : v = 1
  · subst h1
    go_enter Tryz.func50, Tryz.ntmps50
    go_wp2
    go_ret
    exact ⟨rfl, rfl⟩
  · have HR : Hid (mostV v = 65536) := by simp [Hid, mostV, h1]
    have g1 : (v == 1) = false := by simpa using h1
    go_enter Tryz.func50, Tryz.ntmps50
    go_wp2
    go_ret
    exact ⟨by rw [HR.out]; rfl, rfl⟩

set_option maxHeartbeats 400000 in
set_option maxRecDepth 100000 in
theorem rsecond_any (kind : Int) (k k2 : ByteArray) (w : World) :
    Calls Tryz.prog 49 #[.int .i64 kind, .string k, .string k2] w fun e w' => e = .returned (.bool (isPairB kind k k2)) ∧ w = w' := by
  by_cases h1 : kind = 8
  · subst h1
    have HR : Hid (isPairB 8 k k2 = Op.bytesLess k.toList k2.toList) := by simp [Hid, isPairB, tlt]
    go_enter Tryz.func49, Tryz.ntmps49
    go_wp2
    go_ret
    exact ⟨by rw [HR.out]; rfl, rfl⟩
  · have HR : Hid (isPairB kind k k2 = !(k.toList == k2.toList)) := by simp [Hid, isPairB, teq, h1]
    have g1 : (kind == 8) = false := by simpa using h1
    go_enter Tryz.func49, Tryz.ntmps49
    go_wp2
    go_ret
    exact ⟨by rw [HR.out]; rfl, rfl⟩

set_option maxHeartbeats 400000 in
set_option maxRecDepth 100000 in
theorem rnumber_any (t : Bool) (x top : Int) (e : Nat) (w : World) :
    Calls Tryz.prog 46 #[.bool t, .int .i64 x, .int .i64 top, .int .i64 (e : Int)] w fun e' w' => e' = .returned (.int .i64 (numR t x top e : Nat)) ∧ w = w' := by
  cases t with
  | false =>
    by_cases h : x = 0
    · subst h
      go_enter Tryz.func46, Tryz.ntmps46
      go_wp2
      go_ret
      exact ⟨rfl, rfl⟩
    · have HR : Hid (numR false x top e = 48) := by simp [Hid, numR, h]
      have g : (x != 0) = true := by simpa using h
      clear h
      go_enter Tryz.func46, Tryz.ntmps46
      go_wp2
      go_ret
      exact ⟨by rw [HR.out]; rfl, rfl⟩
  | true =>
    by_cases h : x < 0
    · have HR : Hid (numR true x top e = e) := by simp [Hid, numR, h]
      go_enter Tryz.func46, Tryz.ntmps46
      go_wp2
      go_ret
      exact ⟨by rw [HR.out]; rfl, rfl⟩
    · by_cases h2 : top < x
      · have HR : Hid (numR true x top e = e) := by simp [Hid, numR, h2]
        go_enter Tryz.func46, Tryz.ntmps46
        go_wp2
        go_ret
        exact ⟨by rw [HR.out]; rfl, rfl⟩
      · have HR : Hid (numR true x top e = 0) := by simp [Hid, numR, h, h2]
        go_enter Tryz.func46, Tryz.ntmps46
        go_wp2
        go_ret
        exact ⟨by rw [HR.out]; rfl, rfl⟩
set_option maxHeartbeats 400000 in
set_option maxRecDepth 100000 in
theorem rtext_any (t : Bool) (s : ByteArray) (least top : Nat) (e : Nat) (w : World) :
    Calls Tryz.prog 48 #[.bool t, .string s, .int .i64 (least : Int), .int .i64 (top : Int), .int .i64 (e : Int)] w fun e' w' => e' = .returned (.int .i64 (txtR t s least top e : Nat)) ∧ w = w' := by
  cases t with
  | false =>
    cases h : s.toList.isEmpty with
    | true =>
      have HR : Hid (txtR false s least top e = 0) := by simp [Hid, txtR, h]
      go_enter Tryz.func48, Tryz.ntmps48
      go_wp2
      go_ret
      exact ⟨by rw [HR.out]; rfl, rfl⟩
    | false =>
      have HR : Hid (txtR false s least top e = 48) := by simp [Hid, txtR, h]
      go_enter Tryz.func48, Tryz.ntmps48
      go_wp2
      go_ret
      exact ⟨by rw [HR.out]; rfl, rfl⟩
  | true =>
    by_cases h : s.size < least
    · have HR : Hid (txtR true s least top e = e) := by simp [Hid, txtR, h]
      go_enter Tryz.func48, Tryz.ntmps48
      go_wp2
      go_ret
      exact ⟨by rw [HR.out]; rfl, rfl⟩
    · by_cases h2 : top < s.size
      · have HR : Hid (txtR true s least top e = e) := by simp [Hid, txtR, h2]
        go_enter Tryz.func48, Tryz.ntmps48
        go_wp2
        go_ret
        exact ⟨by rw [HR.out]; rfl, rfl⟩
      · have HR : Hid (txtR true s least top e = 0) := by simp [Hid, txtR, h, h2]
        go_enter Tryz.func48, Tryz.ntmps48
        go_wp2
        go_ret
        exact ⟨by rw [HR.out]; rfl, rfl⟩
set_option maxHeartbeats 1000000 in
set_option maxRecDepth 100000 in
theorem rfields_any (kind : Int) (w : World) :
    Calls Tryz.prog 71 #[.int .i64 kind] w fun e w' => e = .returned (.string (fldS kind)) ∧ w = w' := by
  by_cases h : 1 ≤ kind ∧ kind ≤ 8
  · rcases (by omega : kind = 1 ∨ kind = 2 ∨ kind = 3 ∨ kind = 4 ∨ kind = 5 ∨ kind = 6 ∨ kind = 7 ∨ kind = 8) with rfl | rfl | rfl | rfl | rfl | rfl | rfl | rfl
    all_goals
      go_enter Tryz.func71, Tryz.ntmps71
      go_wp2
      go_ret
      exact ⟨rfl, rfl⟩
  · have HR : Hid (fldS kind = ⟨#[]⟩) := by unfold fldS; rw [if_neg (by omega), if_neg (by omega), if_neg (by omega), if_neg (by omega), if_neg (by omega)]; rfl
    have g : ∀ z : Int, 1 ≤ z → z ≤ 8 → (kind == z) = false := fun z h1 h2 => by rw [beq_eq_false_iff_ne]; omega
    have g1 := g 1 (by omega) (by omega)
    have g2 := g 2 (by omega) (by omega)
    have g3 := g 3 (by omega) (by omega)
    have g4 := g 4 (by omega) (by omega)
    have g5 := g 5 (by omega) (by omega)
    have g6 := g 6 (by omega) (by omega)
    have g7 := g 7 (by omega) (by omega)
    have g8 := g 8 (by omega) (by omega)
    clear h g
    go_enter Tryz.func71, Tryz.ntmps71
    go_wp2
    go_ret
    exact ⟨by rw [HR.out]; rfl, rfl⟩

theorem tb_index (s : ByteArray) (i : Nat) (hi : i < s.size) (V : World) : (Instr.index 9 (.string s) (.int .i64 (i : Int))).run Tryz.prog V = .ok (.int .u8 (tb s i)) V := by
  rw [run_index_string V 9 s .i64 (i : Int) Tryz.underlying9, dif_pos ⟨by omega, by omega⟩]
  unfold tb
  simp only [Int.toNat_natCast]
  rw [List.getD, List.getElem?_eq_getElem (by rw [← Lib.size_eq]; exact hi)]
  rfl

set_option maxHeartbeats 1000000 in
set_option maxRecDepth 100000 in
theorem rhas_any (kind b : Int) (w : World) :
    Calls Tryz.prog 47 #[.int .i64 kind, .int .u8 b] w fun e w' => e = .returned (.bool (hasC (fldS kind) b)) ∧ w = w' := by
  have h5 := fldS_size kind
  obtain ⟨s, hs⟩ : ∃ s, Hid (fldS kind = s) := ⟨_, rfl⟩
  rw [hs.out] at h5 ⊢
  go_enter Tryz.func47, Tryz.ntmps47
  go_wp2_with fail
  refine (rfields_any kind _).mono ?_
  rintro e w1 ⟨rfl, rfl⟩
  rw [hs.out]
  go_wp2_with fail
  go_loopw [6] (fun x wr => ∃ i : Nat, x = .int .i64 (i : Int) ∧ i ≤ s.size ∧ Hid ((List.range i).any (fun i => tb s i == b) = false) ∧ wr = w) (fun x _ => s.size - (intOf x).toNat)
  case atStart => exact ⟨0, rfl, by omega, rfl, rfl⟩
  case round =>
    obtain ⟨i, rfl, hi, HF, rfl⟩ := hrel
    by_cases hlt : i < s.size
    · have hix := tb_index s i hlt
      cases h : (tb s i == b) with
      | true =>
        have HR : Hid (hasC s b = true) := hasC_hit hlt h
        go_wp2
        go_ret
        exact ⟨by rw [HR.out]; rfl, rfl⟩
      | false =>
        have HN := hide (hasC_step HF.out h)
        go_wp2
        go_roundw
        case rel => exact ⟨i + 1, by go_num, by omega, HN, trivial⟩
        case measure => simp [intOf]; omega
    · have HR : Hid (hasC s b = false) := by
        have := HF.out
        rw [show i = s.size by omega] at this
        exact this
      go_wp2
      go_ret
      exact ⟨by rw [HR.out]; rfl, rfl⟩
theorem first_next {L : List Nat} {i : Nat} (hi : i < L.length) (h : first0 (L.drop i) = first0 L) (h0 : L.getD i 0 = 0) : first0 (L.drop (i + 1)) = first0 L := by
  rw [← h, List.drop_eq_getElem_cons hi]
  rw [List.getD, List.getElem?_eq_getElem hi] at h0
  simp only [Option.getD_some] at h0
  simp [first0, h0]
theorem first_hit {L : List Nat} {i : Nat} (hi : i < L.length) (h : first0 (L.drop i) = first0 L) (h0 : L.getD i 0 ≠ 0) : first0 L = L.getD i 0 := by
  rw [← h, List.drop_eq_getElem_cons hi]
  rw [List.getD, List.getElem?_eq_getElem hi] at h0 ⊢
  simp only [Option.getD_some] at h0 ⊢
  simp [first0, h0]

set_option maxHeartbeats 1000000 in
set_option maxRecDepth 100000 in
theorem rfirst_any (g cap : Nat) (L : List Nat) (n : Nat) (w : World) (hn : L.length = n) (h7 : n ≤ 7) (hc : ∀ i, i < n → w.cell? ⟨g, i, none⟩ = some (.int .i64 (L.getD i 0 : Nat))) :
    Calls Tryz.prog 51 #[.slice (some ⟨g, 0, none⟩) n cap] w fun e w' => e = .returned (.int .i64 (first0 L : Nat)) ∧ w = w' := by
  have HC := hide hc
  have HN := hide hn
  clear hc hn
  go_enter Tryz.func51, Tryz.ntmps51
  go_wp2_with fail
  go_loopw [3] (fun x wr => ∃ i : Nat, x = .int .i64 (i : Int) ∧ i ≤ n ∧ Hid (first0 (L.drop i) = first0 L) ∧ wr = w) (fun x _ => n - (intOf x).toNat)
  case atStart => exact ⟨0, rfl, by omega, by simp [Hid], rfl⟩
  case round =>
    obtain ⟨i, rfl, hi, HF, rfl⟩ := hrel
    by_cases hlt : i < n
    · have c0 := HC.out i hlt
      by_cases h0 : L.getD i 0 = 0
      · have HX := hide (first_next (by rw [HN.out]; exact hlt) HF.out h0)
        rw [h0] at c0
        clear h0
        go_wp2
        go_roundw
        case rel => exact ⟨i + 1, by go_num, by omega, HX, trivial⟩
        case measure => simp [intOf]; omega
      · have HX := hide (first_hit (by rw [HN.out]; exact hlt) HF.out h0)
        have g1 : (((L.getD i 0 : Nat) : Int) != 0) = true := by rw [bne_iff_ne]; omega
        clear h0
        generalize L.getD i 0 = z at *
        go_wp2
        go_ret
        exact ⟨by rw [HX.out]; rfl, rfl⟩
    · have HX : Hid (first0 L = 0) := by
        have := HF.out
        rw [List.drop_eq_nil_of_le (by rw [HN.out]; omega)] at this
        exact this.symm
      go_wp2
      go_ret
      exact ⟨by rw [HX.out]; rfl, rfl⟩
end Go.Proofs.YtdokagebfeejbaaGreatDoor
