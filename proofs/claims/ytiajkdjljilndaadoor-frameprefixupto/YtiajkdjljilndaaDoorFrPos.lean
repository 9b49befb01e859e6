/- A stream that is fed some bytes takes some; a row of one. -/
import Derived.Test.YtiajkdjljilndaaDoorFrLk
namespace Go.Proofs.YtiajkdjljilndaaDoor
open Go.RowKit Go.Wire1 Go.Crc2 Go.Frm

theorem liv_short {w : World} {b v pl : Nat} {h : List Int} {s : Sm} {pv : Value} {E0 : Nat} (S : Str w b s pv E0) (L : Liv v pl h s) : Frm.look v h = .short := by
  have F : Fd w w b v pl h [] pv E0 0 s pv := ⟨Nat.zero_le _, .inl (by simpa using L), ⟨S, Tch.refl _ _ _, Lat.refl _ _⟩⟩
  have hp := live_part L
  rcases fed_look F (.inl rfl) with ⟨h1, _⟩ | ⟨f, t, _, _, h3, _⟩ | ⟨e, _, h2, _⟩
  · simpa using h1
  · have := h3.part; omega
  · rw [h2] at hp; simp [brk] at hp
theorem fed_pos {w w' : World} {b v pl : Nat} {h l : List Int} {s s1 : Sm} {pv pv1 : Value} {E0 k : Nat} (S : Str w b s pv E0) (L : Liv v pl h s) (F : Fd w w' b v pl h l pv E0 k s1 pv1) (hk : k = l.length ∨ s1.part = 5 ∨ s1.part = 6) (hl : 0 < l.length) : 0 < k := by
  rcases Nat.eq_zero_or_pos k with h0 | h0
  · subst h0
    have hsh := liv_short S L
    have hc := F.came
    rw [List.take_zero, List.append_nil] at hc
    have h56 : s1.part = 5 ∨ s1.part = 6 := by omega
    rcases hc with c | c | ⟨e, c1, _, _, c4⟩
    · have := live_part c; omega
    · obtain ⟨hd, H, e⟩ := c.which
      have hb := hd_byt_len H (fun z hz => c.byt z (by rw [e]; exact List.mem_append_left _ (List.mem_append_left _ hz)))
      have ef : h = frm v s1.pay := by
        unfold frm body hdL
        rw [e]
        have : hd = [77, 84, (v : Int)] ++ enc s1.pay.length := hb.2.2.2
        rw [this]
      have := look_frm v s1.pay [] hb.2.2.1
      rw [List.append_nil, ← ef, hsh] at this
      cases this
    · rw [hsh] at c4; cases c4
  · exact h0
theorem wai_len {v pl : Nat} {h : List Int} {s : Sm} (W : Wai v pl h s) : 8 ≤ s.held ∧ s.pay.length + 8 ≤ s.held ∧ s.held ≤ 1048586 ∧ s.pay.length ≤ 1048576 := by
  obtain ⟨hd, H, e⟩ := W.which
  have hb := hd_byt_len H (fun z hz => W.byt z (by rw [e]; exact List.mem_append_left _ (List.mem_append_left _ hz)))
  have := W.held
  rw [e] at this
  simp [fb_len] at this
  have := hb.1
  have := hb.2.1
  have := hb.2.2.1
  omega

theorem infoLL : (Tryd.prog.info? 22).map (fun i => (i.zero, i.size, i.bytes)) = some (some (.slice none 0 0), 1, 24) := by kernel_rfl
theorem cell_one (W : World) (v : Value) (T : TypeId) : ∀ j u, ([v] : List Value)[j]? = some u → (W.alloc (.cells #[v] T)).cell? ((⟨W.heap.size, 0, none⟩ : Addr).add j) = some u := by
  intro jj uu hj
  match jj, hj with
  | 0, hj => simp at hj; subst hj; simp [Addr.add]
end Go.Proofs.YtiajkdjljilndaaDoor
