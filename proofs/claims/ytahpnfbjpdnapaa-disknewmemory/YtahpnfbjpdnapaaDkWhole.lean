/- The statements' book of lists of bytes: whole. -/
import Derived.Test.YtahpnfbjpdnapaaDkBook
import Derived.WalkSpells
import Derived.BigRegion
namespace Go.Proofs.Ytahpnfbjpdnapaa
open Go.RowKit Go.Wire1

theorem row_at {w : World} {e : TypeId} {a : Option Addr} {n cap : Nat} {xs : List Value} (h : w.ownsRow 0 e 1 (.slice a n cap) n xs) {i : Nat} (hi : i < n) : ∃ b, a = some ⟨b, 0, none⟩ ∧ w.cell? ⟨b, i, none⟩ = xs[i]? := by
  rcases h.2 with ⟨_, h0⟩ | ⟨b, cap', cur, e, _⟩
  · omega
  · simp only [Value.slice.injEq] at e
    obtain ⟨rfl, _, rfl⟩ := e
    exact ⟨b, rfl, h.cellAt i (by omega)⟩
/-- What stands at a place of one half of the book. -/
theorem half_at {w : World} {tl e : TypeId} {kd : IntKind} {a a' : Option Addr} {n cap cap' : Nat} {ks : List KP} (hx : w.ownsRow 0 tl 1 (.slice a n cap) n (ks.map kpv)) (hy : w.ownsRow 0 e 1 (.slice a' n cap') n (ks.map (kpm kd))) (hf : ∀ k ∈ ks, FullK kd w k) {i : Nat} (hi : i < n) :
    ∃ b b' k, a = some ⟨b, 0, none⟩ ∧ a' = some ⟨b', 0, none⟩ ∧ w.cell? ⟨b, i, none⟩ = some (.slice k.a k.n k.cap) ∧ w.cell? ⟨b', i, none⟩ = some (.int kd k.mark) ∧ FullK kd w k := by
  have hl : i < ks.length := by have := hx.1; simp at this; omega
  obtain ⟨b, rfl, c1⟩ := row_at hx hi
  obtain ⟨b', rfl, c2⟩ := row_at hy hi
  refine ⟨b, b', ks[i], rfl, rfl, ?_, ?_, hf _ (List.getElem_mem hl)⟩
  · rw [c1, List.getElem?_map, List.getElem?_eq_getElem hl]; rfl
  · rw [c2, List.getElem?_map, List.getElem?_eq_getElem hl]; rfl
theorem drewN_add (w : World) (d e : Nat) : (w.drewN d).drewN e = w.drewN (d + e) := by simp [World.drewN, Nat.add_assoc]

set_option maxHeartbeats 4000000 in
set_option maxRecDepth 100000 in
theorem whole_any {w : World} {ro : Nat → Nat} {bp : Nat} {vL vN : Value} {bs : List KP} (hb : Bd w ro bp vL vN bs) (mo : Int) :
    Calls Try.prog 12 #[.pointer (some ⟨bp, 0, none⟩), .int .i64 mo] w fun e w' => e = .returned (.bool true) ∧ ∃ d, w' = w.drewN d := by
  obtain ⟨aB, cB, rfl⟩ := own_shape hb.rL
  obtain ⟨aN, cN, rfl⟩ := own_shape hb.rN
  have C0 := hide (hb.blk.cell 0 _ rfl)
  have C1 := hide (hb.blk.cell 1 _ rfl)
  have XB := hide hb.rL
  have XN := hide hb.rN
  have FB := hide hb.full
  have hk2 : bs.length ≤ maxLen := by rcases hb.rL.2 with ⟨_, h0⟩ | ⟨b, cap', cur, e, _, _, h1, h2, _⟩ <;> omega
  unfold maxLen at hk2
  clear hb
  generalize bs.length = bn at *
  go_enter Try.func12, Try.ntmps12
  go_wp2_with fail
  go_loopw [5] (fun x wr => ∃ i d : Nat, x = .int .i64 (i : Int) ∧ i ≤ bn ∧ wr = w.drewN d) (fun x _ => bn - (intOf x).toNat)
  case atStart => exact ⟨0, 0, rfl, Nat.zero_le _, rfl⟩
  case round =>
    obtain ⟨i2, d2, rfl, hi, rfl⟩ := hrel
    have p0 : (w.drewN d2).cell? ⟨bp, 0, none⟩ = some (.slice aB bn cB) := C0.out
    have p2 : (w.drewN d2).cell? ⟨bp, 1, none⟩ = some (.slice aN bn cN) := C1.out
    by_cases hlt : i2 < bn
    · obtain ⟨b, b', k, hb1, hb2, x0, x1, hp⟩ := half_at (w := w.drewN d2) XB.out XN.out FB.out hlt
      subst hb1 hb2
      obtain ⟨W, hW⟩ : ∃ W, Hid (w.drewN d2 = W) := ⟨_, hide rfl⟩
      rw [hW.out] at p0 p2 x0 x1 hp ⊢
      obtain ⟨ka, kn', kc, mark⟩ := k
      simp only at x0 x1
      have hkn : kn' ≤ 9223372036854775807 := by have := hp.1; unfold maxLen at this; simpa using this
      have HP := hide hp
      clear hp
      go_wp2_with fail
      go_loopw [6] (fun x wr => ∃ j e : Nat, x = .int .i64 (j : Int) ∧ j ≤ kn' ∧ wr = W.drewN e) (fun x _ => kn' - (intOf x).toNat)
      case atStart => exact ⟨0, 0, rfl, Nat.zero_le _, rfl⟩
      case round =>
        obtain ⟨j, e, rfl, hj, rfl⟩ := hrel
        have y0 : (W.drewN e).cell? ⟨b, i2, none⟩ = _ := x0
        have y1 : (W.drewN e).cell? ⟨b', i2, none⟩ = _ := x1
        have q0 : (W.drewN e).cell? ⟨bp, 0, none⟩ = _ := p0
        have q2 : (W.drewN e).cell? ⟨bp, 1, none⟩ = _ := p2
        obtain ⟨V, hV⟩ : ∃ V, Hid (W.drewN e = V) := ⟨_, hide rfl⟩
        rw [hV.out] at y0 y1 q0 q2 ⊢
        clear x0 x1 p0 p2
        by_cases hjl : j < kn'
        · by_cases hmo : (kn' : Int) ≤ mo
          · obtain ⟨g, hg, hgc⟩ := HP.out.2 (by show 0 < kn'; omega)
            have hg' : ka = some ⟨g, 0, none⟩ := hg
            subst hg'
            have cj : V.cell? ⟨g, j, none⟩ = some (.int .u8 mark) := by rw [← hV.out]; exact hgc j hjl
            have hmm : (mark != mark) = false := by simp
            clear hg hgc
            go_wp2_with fail
            go_region
            go_wp2
            go_roundw
            case rel => exact ⟨j + 1, e + 1, by go_num, by omega, by rw [← hV.out]; rfl⟩
            case measure => simp [intOf]; omega
          · go_wp2
            go_roundw
            case rel => exact ⟨i2 + 1, d2 + e, by go_num, by omega, by rw [← hV.out, ← hW.out]; exact drewN_add w d2 e⟩
            case measure => simp [intOf]; omega
        · go_wp2
          go_roundw
          case rel => exact ⟨i2 + 1, d2 + e, by go_num, by omega, by rw [← hV.out, ← hW.out]; exact drewN_add w d2 e⟩
          case measure => simp [intOf]; omega
    · go_wp2
      go_ret
      exact ⟨rfl, d2, rfl⟩
end Go.Proofs.Ytahpnfbjpdnapaa
