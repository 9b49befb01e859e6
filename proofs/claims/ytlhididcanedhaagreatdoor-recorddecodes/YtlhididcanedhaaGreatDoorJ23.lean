/- Texts of the proof, joined. -/
import Derived.Test.YtlhididcanedhaaGreatDoorJ22
import Derived.Test.YtlhididcanedhaaGreatDoorJ07
import Derived.Deep.QuietTactic
import Derived.BigQuiet
/- The contracts of the document's own GetUint and GetInt. -/
namespace Go.Proofs.YtlhididcanedhaaGreatDoor
open Go.RowKit Go.Wire1

/-- What the document's GetUint answers. -/
def RefU (r : Except Nat (Nat × Nat)) (e : Ending) : Prop :=
  match r with
  | .ok (x, m) => e = .returned (.tuple #[.int .u64 (x : Int), .int .i64 (m : Int), .int .i64 0])
  | .error i => e = .returned (.tuple #[.int .u64 0, .int .i64 0, .int .i64 (11 + (i : Int))])

theorem horner_u64 {U V : Nat} {y : Int} (hy : 0 ≤ y ∧ y < 256) (hU : U < 18446744073709551616) (h : U = y.toNat % 128 + 128 * V) :
    IntKind.u64.wrap (IntKind.u64.wrap ((V : Int) * 128) + y % 128) = (U : Int) := by
  simp only [IntKind.wrap_u64]; omega

set_option maxHeartbeats 2000000 in
set_option maxRecDepth 100000 in
theorem refUint_any (n cap : Nat) (sa : Option Addr) (l : List Int) (w : World) (hs : Seg w sa n l) (hy : Byt l) :
    Calls Tryz.prog 105 #[.slice sa n cap] w fun e w' => RefU (dec l) e ∧ w' = w := by
  have hl : Hid (l.length = n) := hs.1
  have hn := hs.2.1
  unfold maxLen at hn
  go_enter Tryz.func105, Tryz.ntmps105
  go_wp2
  go_loop [5] (fun c => ∃ k : Nat, c = .int .i64 (k : Int) ∧ k ≤ 9 ∧ k ≤ n ∧ Hid (lead 9 l = k + lead (9 - k) (l.drop k))) (fun c => 9 - (intOf c).toNat)
  case atStart => exact ⟨0, rfl, by omega, Nat.zero_le _, by simp [Hid]⟩
  case round =>
    obtain ⟨k, rfl, hk9, hkn, HK⟩ := hrel
    by_cases hkn' : k = n
    · subst hkn'
      have HQ : Hid (dec l = .error 0) := by
        have h := HK.out
        have e : l.drop k = [] := by rw [List.drop_eq_nil_iff]; have := hl.out; omega
        rw [e, lead_nil] at h
        exact decF_short 9 true l (by have := hl.out; omega)
      by_cases h9 : k < 9
      all_goals
        go_wp2
        go_ret3
        exact ⟨by rw [HQ.out]; rfl, rfl⟩
    · have hlt : k < n := by omega
      obtain ⟨b, off, rfl, hc⟩ := hs.2.2 (by omega)
      have hck := hc k hlt
      have hz := byt_at hy k
      have HD : Hid (l.drop k = l.getD k 0 :: l.drop (k + 1)) := drop_cons (by have := hl.out; omega)
      by_cases hmore : k < 9 ∧ 128 ≤ l.getD k 0
      · obtain ⟨h9, hbig⟩ := hmore
        obtain ⟨f, hf⟩ : ∃ f, 9 - k = f + 1 := ⟨8 - k, by omega⟩
        have HK' : Hid (lead 9 l = (k + 1) + lead (9 - (k + 1)) (l.drop (k + 1))) := by
          have := HK.out
          rw [HD.out, hf, lead_yes _ _ _ hbig] at this
          have e : 9 - (k + 1) = f := by omega
          show _ = _
          rw [e]; omega
        clear hc hf
        generalize l.getD k 0 = z at *
        go_wp2
        go_round
        case rel => exact ⟨k + 1, by go_num, by omega, by omega, HK'⟩
        case measure => simp [intOf]; omega
      · have HL : Hid (lead 9 l = k) := by
          have h := HK.out
          show _ = _
          by_cases h9 : k < 9
          · rw [HD.out, lead_no _ _ _ (fun h => hmore ⟨h9, h⟩)] at h; omega
          · obtain rfl : k = 9 := by omega
            simpa [lead] using h
        have HV : Hid ((k = 9 ∧ 1 < l.getD k 0 ∧ dec l = .error 1) ∨ (0 < k ∧ l.getD k 0 = 0 ∧ dec l = .error 2) ∨ ((k = 9 ∧ l.getD k 0 = 1 ∨ k < 9 ∧ 0 < l.getD k 0 ∧ l.getD k 0 < 128 ∨ k = 0 ∧ l.getD k 0 = 0) ∧ dec l = .ok (valAt l 0 (k + 1), k + 1))) := ref_ways hy (by have := hl.out; omega) hk9 HL.out
        clear hmore HK HD
        rcases HV.out with ⟨h9, h1, HQ0⟩ | ⟨h0, hz0, HQ0⟩ | ⟨hw, HQ0⟩
        · have HQ : Hid (dec l = .error 1) := HQ0
          clear HQ0
          subst h9
          clear hc
          generalize l.getD 9 0 = z at *
          go_wp2
          go_ret3
          exact ⟨by rw [HQ.out]; rfl, rfl⟩
        · have HQ : Hid (dec l = .error 2) := HQ0
          clear HQ0
          rw [hz0] at hck
          clear hc hz hz0 HV
          have hc9 : (((k : Int) == 9) = true ∧ ¬ k < 9) ∨ (((k : Int) == 9) = false ∧ k < 9) := by
            by_cases e : k = 9
            · left; subst e; exact ⟨rfl, by omega⟩
            · right; exact ⟨beq_eq_false_iff_ne.2 (by omega), by omega⟩
          rcases hc9 with ⟨hc9, h9'⟩ | ⟨hc9, h9'⟩
          all_goals
            go_wp2
            go_ret3
            exact ⟨by rw [HQ.out]; rfl, rfl⟩
        · have HQ : Hid (dec l = .ok (valAt l 0 (k + 1), k + 1)) := HQ0
          clear HQ0
          have hV64 : ∀ i, i ≤ k → valAt l i (k + 1 - i) < 18446744073709551616 := fun i hi => valAt_64 hk9 (by have := hl.out; omega) (fun e => by subst e; omega) hi
          have HVS : Hid (∀ i, i ≤ k → valAt l i (k + 1 - i) = (l.getD i 0).toNat % 128 + 128 * valAt l (i + 1) (k + 1 - (i + 1))) := fun i hi => by
            have := valAt_step (l := l) (i := i) (m := k - i) (by have := hl.out; omega)
            rw [show k + 1 - i = k - i + 1 by omega, show k + 1 - (i + 1) = k - i by omega]; exact this
          have HV64 := hide hV64
          have HC := hide hc
          clear hc HV hV64
          generalize l.getD k 0 = z at *
          have hw' : (k < 9 ∧ ((k : Int) == 9) = false ∧ z < 128) ∨ (¬ k < 9 ∧ ((k : Int) == 9) = true ∧ z = 1) := by
            rcases hw with ⟨h9, h1⟩ | ⟨h9, h1, h2⟩ | ⟨h9, h1⟩
            · right; subst h9; exact ⟨by omega, rfl, h1⟩
            · left; exact ⟨h9, beq_eq_false_iff_ne.2 (by omega), h2⟩
            · left; exact ⟨by omega, beq_eq_false_iff_ne.2 (by omega), by omega⟩
          have hw'' : (0 < k ∧ (z == 0) = false) ∨ ¬ 0 < k := by
            by_cases e : 0 < k
            · left; exact ⟨e, beq_eq_false_iff_ne.2 (by omega)⟩
            · right; exact e
          clear hw
          rcases hw' with ⟨g1, g2, g3⟩ | ⟨g1, g2, g3⟩ <;> rcases hw'' with ⟨g4, g5⟩ | g4
          all_goals first
            | (exfalso; omega)
            | (go_wp2
               go_loop [6, 7] (fun s c => ∃ j : Nat, j ≤ k + 1 ∧ c = .int .i64 ((j : Int) - 1) ∧ s = .int .u64 (valAt l j (k + 1 - j) : Nat)) (fun _ c => (intOf c + 1).toNat)
               case atStart => exact ⟨k + 1, Nat.le_refl _, by go_num, by rw [Nat.sub_self, valAt_zero]; rfl⟩
               case round =>
                 obtain ⟨j, hj, rfl, rfl⟩ := hrel
                 by_cases hj0 : j = 0
                 · subst hj0
                   go_wp2
                   go_ret3
                   exact ⟨by rw [HQ.out]; rfl, rfl⟩
                 · obtain ⟨i, rfl⟩ : ∃ i, j = i + 1 := ⟨j - 1, by omega⟩
                   have hci := HC.out i (by omega)
                   have HS := hide (HVS.out i (by omega))
                   have hb1 := HV64.out i (by omega)
                   have hzi := byt_at hy i
                   generalize valAt l (i + 1) (k + 1 - (i + 1)) = V at *
                   generalize hU : valAt l i (k + 1 - i) = U at *
                   have HU := hide hU
                   clear hU
                   generalize l.getD i 0 = y at *
                   go_wp2
                   refine ⟨⟨i, by omega, rfl, ?_⟩, by simp [intOf] <;> omega⟩
                   rw [unhide HU, horner_u64 hzi hb1 (unhide HS)]
              )

/-- What the document's GetInt answers. -/
def RefI (r : Except Nat (Nat × Nat)) (e : Ending) : Prop :=
  match r with
  | .ok (x, m) => e = .returned (.tuple #[.int .i64 (unzig x), .int .i64 (m : Int), .int .i64 0])
  | .error i => e = .returned (.tuple #[.int .i64 0, .int .i64 0, .int .i64 (11 + (i : Int))])

set_option maxHeartbeats 1000000 in
set_option maxRecDepth 100000 in
theorem refInt_any (n cap : Nat) (sa : Option Addr) (l : List Int) (w : World) (hs : Seg w sa n l) (hy : Byt l) :
    Calls Tryz.prog 160 #[.slice sa n cap] w fun e w' => RefI (dec l) e ∧ w' = w := by
  cases hd : dec l with
  | error j =>
    have HD : Hid (dec l = .error j) := hd
    have hj : ((11 + (j : Int)) != 0) = true := by rw [bne_iff_ne]; omega
    clear hd
    go_enter Tryz.func160, Tryz.ntmps160
    go_wp2_with fail
    refine (refUint_any n cap sa l _ hs hy).mono ?_
    rintro e w1 ⟨hg, rfl⟩
    rw [HD.out] at hg
    obtain rfl : e = _ := hg
    go_wp2
    go_ret3
    exact ⟨rfl, rfl⟩
  | ok p =>
    obtain ⟨x, m⟩ := p
    have hx := dec_lt hy hd
    have HD : Hid (dec l = .ok (x, m)) := hd
    clear hd
    by_cases ho : x % 2 = 1
    · have HU : Hid (unzig x = -((x / 2 : Nat) : Int) - 1) := by show _ = _; unfold unzig; rw [if_neg (by omega)]
      have hb : (((x : Int) % 2) == 1) = true := beq_iff_eq.2 (by omega)
      clear ho
      go_enter Tryz.func160, Tryz.ntmps160
      go_wp2_with fail
      refine (refUint_any n cap sa l _ hs hy).mono ?_
      rintro e w1 ⟨hg, rfl⟩
      rw [HD.out] at hg
      obtain rfl : e = _ := hg
      go_wp2
      go_ret3
      refine ⟨?_, rfl⟩
      show _ = _
      rw [HU.out]
      rfl
    · have HU : Hid (unzig x = ((x / 2 : Nat) : Int)) := by show _ = _; unfold unzig; rw [if_pos (by omega)]
      have hb : (((x : Int) % 2) == 1) = false := beq_eq_false_iff_ne.2 (by omega)
      clear ho
      go_enter Tryz.func160, Tryz.ntmps160
      go_wp2_with fail
      refine (refUint_any n cap sa l _ hs hy).mono ?_
      rintro e w1 ⟨hg, rfl⟩
      rw [HD.out] at hg
      obtain rfl : e = _ := hg
      go_wp2
      go_ret3
      refine ⟨?_, rfl⟩
      show _ = _
      rw [HU.out]
      rfl
end Go.Proofs.YtlhididcanedhaaGreatDoor
/- The document's own scan of records: its memory, number, byte, judge, pair. -/
namespace Go.Proofs.YtlhididcanedhaaGreatDoor
open Go.RowKit Go.Wire1

/-- The document's scan in memory: what is left, its fault; w0 the world at Decode's call. -/
structure S6 (w0 w : World) (g : Nat) (sa : Option Addr) (m cap : Nat) (l : List Int) (e : Int) : Prop where
  box : Blk w g [.slice sa m cap, .int .i64 e]
  low : Below w0.heap.size w0 w
  hg : w0.heap.size ≤ g
  seg : Seg w0 sa m l
  src : Src sa m cap
  byt : Byt l
def S6x (w0 w : World) (g : Nat) (l : List Int) (e : Int) : Prop := ∃ sa m cap, S6 w0 w g sa m cap l e
section
variable {w0 w w' : World} {g : Nat} {sa : Option Addr} {m cap : Nat} {l : List Int} {e : Int}
theorem S6.on (h : S6 w0 w g sa m cap l e) (hb : Below w.heap.size w w') : S6 w0 w' g sa m cap l e :=
  ⟨h.box.on hb, h.low.trans (hb.mono h.low.size), h.hg, h.seg, h.src, h.byt⟩
theorem S6x.on (h : S6x w0 w g l e) (hb : Below w.heap.size w w') : S6x w0 w' g l e := by obtain ⟨a, b, c, h⟩ := h; exact ⟨a, b, c, h.on hb⟩
theorem S6x.lt (h : S6x w0 w g l e) : g < w.heap.size := by obtain ⟨a, b, c, h⟩ := h; exact h.box.lt
theorem S6x.hg (h : S6x w0 w g l e) : w0.heap.size ≤ g := by obtain ⟨a, b, c, h⟩ := h; exact h.hg
theorem S6x.low (h : S6x w0 w g l e) : Below w0.heap.size w0 w := by obtain ⟨a, b, c, h⟩ := h; exact h.low
theorem S6x.byt (h : S6x w0 w g l e) : Byt l := by obtain ⟨a, b, c, h⟩ := h; exact h.byt
theorem S6x.fault (h : S6x w0 w g l e) : w.cell? ⟨g, 1, none⟩ = some (.int .i64 e) := by obtain ⟨a, b, c, h⟩ := h; exact h.box.cell 1 _ rfl
theorem S6x.len (h : S6x w0 w g l e) : ∃ a c, w.cell? ⟨g, 0, none⟩ = some (.slice a l.length c) := by
  obtain ⟨a, b, c, h⟩ := h
  have := h.box.cell 0 _ rfl
  rw [h.seg.1]; exact ⟨a, c, this⟩
/-- Another block is written. -/
theorem S6x.beside (h : S6x w0 w g l e) {q : Nat} (T : Touch q w w') (hq : g ≠ q) (hq0 : w0.heap.size ≤ q) : S6x w0 w' g l e := by
  obtain ⟨a, b, c, h⟩ := h
  exact ⟨a, b, c, h.box.of_block (T.block g h.box.lt hq), T.below hq0 h.low, h.hg, h.seg, h.src, h.byt⟩
theorem S6x.drewN (h : S6x w0 w g l e) (n : Nat) : S6x w0 (w.drewN n) g l e := by
  obtain ⟨a, b, c, h⟩ := h
  exact ⟨a, b, c, h.box.drewN n, h.low.drewN' n, h.hg, h.seg, h.src, h.byt⟩
theorem S6.put (h : S6 w0 w g sa m cap l e) (f : Int) : S6 w0 (w.setCell ⟨g, 1, none⟩ (.int .i64 f)) g sa m cap l f ∧ Touch g w (w.setCell ⟨g, 1, none⟩ (.int .i64 f)) := by
  have T : Touch g w (w.setCell ⟨g, 1, none⟩ (.int .i64 f)) := (Touch.refl g w).setB _
  exact ⟨⟨h.box.setAt 1 _, T.below h.hg h.low, h.hg, h.seg, h.src, h.byt⟩, T⟩
theorem S6.setR (h : S6 w0 w g sa m cap l e) {sa' : Option Addr} {m' cap' : Nat} {l' : List Int} (hs : Seg w0 sa' m' l') (hc : Src sa' m' cap') (hy : Byt l') :
    S6 w0 (w.setCell ⟨g, 0, none⟩ (.slice sa' m' cap')) g sa' m' cap' l' e ∧ Touch g w (w.setCell ⟨g, 0, none⟩ (.slice sa' m' cap')) := by
  have T : Touch g w (w.setCell ⟨g, 0, none⟩ (.slice sa' m' cap')) := (Touch.refl g w).setB _
  exact ⟨⟨h.box.setAt 0 _, T.below h.hg h.low, h.hg, hs, hc, hy⟩, T⟩
/-- j bytes are passed. -/
theorem S6.pass (h : S6 w0 w g sa m cap l e) (j : Nat) (hj : j ≤ m) :
    (m = 0 ∧ cap = 0 ∧ j = 0 ∧ S6x w0 (w.setCell ⟨g, 0, none⟩ (.slice sa 0 0)) g (l.drop j) e ∧ Touch g w (w.setCell ⟨g, 0, none⟩ (.slice sa 0 0)))
    ∨ (∃ b off, sa = some ⟨b, off, none⟩ ∧ m = j ∧ cap = j ∧ S6x w0 (w.setCell ⟨g, 0, none⟩ (.slice (some ⟨b, off, none⟩) 0 0)) g (l.drop j) e ∧ Touch g w (w.setCell ⟨g, 0, none⟩ (.slice (some ⟨b, off, none⟩) 0 0)))
    ∨ (∃ b off, sa = some ⟨b, off, none⟩ ∧ j < cap ∧ m ≤ cap ∧ cap ≤ 9223372036854775807 ∧ S6x w0 (w.setCell ⟨g, 0, none⟩ (.slice (some ⟨b, off + j, none⟩) (m - j) (cap - j))) g (l.drop j) e ∧ Touch g w (w.setCell ⟨g, 0, none⟩ (.slice (some ⟨b, off + j, none⟩) (m - j) (cap - j)))) := by
  have hl : l.length = m := h.seg.1
  have Y := byt_drop h.byt j
  rcases h.src with ⟨hn, hc⟩ | ⟨⟨b, off, rfl⟩, hc1, hc2⟩
  · subst hn hc
    obtain rfl : j = 0 := by omega
    obtain rfl : l = [] := List.length_eq_zero_iff.1 hl
    have R := h.setR (sa' := sa) (m' := 0) (cap' := 0) (l' := []) h.seg (.inl ⟨rfl, rfl⟩) h.byt
    exact .inl ⟨rfl, rfl, rfl, ⟨_, _, _, R.1⟩, R.2⟩
  · unfold maxLen at hc2
    right
    by_cases hck : cap = j
    · left
      have e0 : l.drop j = [] := List.drop_eq_nil_of_le (by omega)
      rw [e0] at Y ⊢
      have R := h.setR (sa' := some ⟨b, off, none⟩) (m' := 0) (cap' := 0) (l' := []) (seg_empty _ _) (.inl ⟨rfl, rfl⟩) Y
      exact ⟨b, off, rfl, by omega, hck, ⟨_, _, _, R.1⟩, R.2⟩
    · right
      have R := h.setR (sa' := some ⟨b, off + j, none⟩) (m' := m - j) (cap' := cap - j) (l' := l.drop j) (h.seg.from hj) (.inr ⟨⟨b, off + j, rfl⟩, by omega, by unfold maxLen; omega⟩) Y
      exact ⟨b, off, rfl, by omega, hc1, hc2, ⟨_, _, _, R.1⟩, R.2⟩
end
def nu6 (l : List Int) (e : Int) : Nat × List Int × Int := if e = 0 then rWh l else (0, l, e)
def oc6 (l : List Int) (e : Int) : Int × List Int × Int := if e = 0 then rOct l else (0, l, e)
def jd6 (bad : Bool) (z e : Int) : Int := if bad && (e == 0) then z else e

section
variable (w0 : World) (g : Nat)
set_option maxHeartbeats 2000000 in
set_option maxRecDepth 100000 in
theorem judge6_any (bad : Bool) (z : Int) (l : List Int) (e : Int) (w : World) (h : S6x w0 w g l e) :
    Calls Tryz.prog 31 #[.pointer (some ⟨g, 0, none⟩), .bool bad, .int .i64 z] w fun r w' => r = .returned (.tuple #[]) ∧ Touch g w w' ∧ S6x w0 w' g l (jd6 bad z e) := by
  obtain ⟨sa, m, cap, h⟩ := h
  have c1 : w.cell? ⟨g, 1, none⟩ = some (.int .i64 e) := h.box.cell 1 _ rfl
  have t1 := h.box.thaw 1
  have HS := hide h
  clear h
  cases bad with
  | false =>
    have HQ : Hid (jd6 false z e = e) := rfl
    rw [HQ.out]
    go_enter Tryz.func31, Tryz.ntmps31
    go_wp2
    go_end0
    exact ⟨rfl, Touch.refl _ _, _, _, _, HS.out⟩
  | true =>
    by_cases he : e = 0
    · subst he
      have HQ : Hid (jd6 true z 0 = z) := rfl
      rw [HQ.out]
      have R := hide (HS.out.put z)
      go_enter Tryz.func31, Tryz.ntmps31
      go_wp2
      go_end0
      exact ⟨rfl, R.out.2, _, _, _, R.out.1⟩
    · have HQ : Hid (jd6 true z e = e) := by simp [Hid, jd6, he]
      have g1 : (e == 0) = false := beq_eq_false_iff_ne.2 he
      rw [HQ.out]
      clear he
      go_enter Tryz.func31, Tryz.ntmps31
      go_wp2
      go_end0
      exact ⟨rfl, Touch.refl _ _, _, _, _, HS.out⟩
set_option maxHeartbeats 4000000 in
set_option maxRecDepth 100000 in
theorem number6_any (l : List Int) (e : Int) (w : World) (h : S6x w0 w g l e) :
    Calls Tryz.prog 69 #[.pointer (some ⟨g, 0, none⟩)] w fun r w' => r = .returned (.int .u64 ((nu6 l e).1 : Nat)) ∧ Touch g w w' ∧ S6x w0 w' g (nu6 l e).2.1 (nu6 l e).2.2 := by
  obtain ⟨sa, m, cap, h⟩ := h
  have c0 : w.cell? ⟨g, 0, none⟩ = some (.slice sa m cap) := h.box.cell 0 _ rfl
  have c1 : w.cell? ⟨g, 1, none⟩ = some (.int .i64 e) := h.box.cell 1 _ rfl
  have t0 := h.box.thaw 0
  have t1 := h.box.thaw 1
  have HS := hide h
  have hl : l.length = m := h.seg.1
  clear h
  by_cases he : e = 0
  · subst he
    have SG := hide (HS.out.seg.below HS.out.low (Nat.le_refl _))
    have HY := hide HS.out.byt
    cases hd : dec l with
    | ok p =>
      obtain ⟨x, j⟩ := p
      have HQ : Hid (nu6 l 0 = (x, l.drop j, 0)) := by show _ = _; unfold nu6 rWh; rw [if_pos rfl, hd]
      rw [HQ.out]
      have hm := dec_len HY.out hd
      have HC : Hid (Calls Tryz.prog 105 #[.slice sa m cap] w fun e w' => e = .returned (.tuple #[.int .u64 (x : Int), .int .i64 (j : Int), .int .i64 0]) ∧ w' = w) := by
        refine (refUint_any m cap sa l w SG.out HY.out).mono ?_
        rintro e w' ⟨h, rfl⟩
        rw [hd] at h; exact ⟨h, rfl⟩
      have PT := HS.out.put 0
      have hP := PT.1.pass j (by omega)
      have h1 := hm.1
      have hjm : j ≤ m := by omega
      have PT2 := PT.2
      clear PT
      clear hd hm HS SG HY
      rcases hP with ⟨h2, h3, h4, h5, h6⟩ | ⟨b, off, rfl, h2, h3, h5, h6⟩ | ⟨b, off, rfl, q1, q2, q3, h5, h6⟩
      · omega
      · subst h2 h3
        have F := hide (And.intro (PT2.trans h6) h5)
        clear h5 h6 PT2
        go_enter Tryz.func69, Tryz.ntmps69
        go_wp2_with fail
        refine HC.out.mono ?_
        rintro e w1 ⟨rfl, rfl⟩
        go_wp2
        go_ret
        exact ⟨rfl, F.out⟩
      · have F := hide (And.intro (PT2.trans h6) h5)
        clear h5 h6 PT2
        go_enter Tryz.func69, Tryz.ntmps69
        go_wp2_with fail
        refine HC.out.mono ?_
        rintro e w1 ⟨rfl, rfl⟩
        go_wp2
        go_ret
        exact ⟨rfl, F.out⟩
    | error i =>
      have HQ : Hid (nu6 l 0 = (0, l, 11 + (i : Int))) := by show _ = _; unfold nu6 rWh; rw [if_pos rfl, hd]
      rw [HQ.out]
      have HC : Hid (Calls Tryz.prog 105 #[.slice sa m cap] w fun e w' => e = .returned (.tuple #[.int .u64 0, .int .i64 0, .int .i64 (11 + (i : Int))]) ∧ w' = w) := by
        refine (refUint_any m cap sa l w SG.out HY.out).mono ?_
        rintro e w' ⟨h, rfl⟩
        rw [hd] at h; exact ⟨h, rfl⟩
      have PT := HS.out.put (11 + (i : Int))
      have hP := PT.1.pass 0 (by omega)
      have PT2 := PT.2
      clear PT
      clear hd HS SG HY
      rw [List.drop_zero] at hP
      rcases hP with ⟨rfl, rfl, h3, h5, h6⟩ | ⟨b, off, rfl, h2, h3, h5, h6⟩ | ⟨b, off, rfl, q1, q2, q3, h5, h6⟩
      · have F := hide (And.intro (PT2.trans h6) h5)
        clear h5 h6 PT2
        cases sa with
        | none =>
          go_enter Tryz.func69, Tryz.ntmps69
          go_wp2_with fail
          refine HC.out.mono ?_
          rintro e w1 ⟨rfl, rfl⟩
          go_wp2
          go_ret
          exact ⟨rfl, F.out⟩
        | some ad =>
          go_enter Tryz.func69, Tryz.ntmps69
          go_wp2_with fail
          refine HC.out.mono ?_
          rintro e w1 ⟨rfl, rfl⟩
          go_wp2
          go_ret
          exact ⟨rfl, F.out⟩
      · subst h2 h3
        have F := hide (And.intro (PT2.trans h6) h5)
        clear h5 h6 PT2
        go_enter Tryz.func69, Tryz.ntmps69
        go_wp2_with fail
        refine HC.out.mono ?_
        rintro e w1 ⟨rfl, rfl⟩
        go_wp2
        go_ret
        exact ⟨rfl, F.out⟩
      · have F := hide (And.intro (PT2.trans h6) h5)
        clear h5 h6 PT2
        go_enter Tryz.func69, Tryz.ntmps69
        go_wp2_with fail
        refine HC.out.mono ?_
        rintro e w1 ⟨rfl, rfl⟩
        go_wp2
        go_ret
        exact ⟨rfl, F.out⟩
  · have HQ : Hid (nu6 l e = (0, l, e)) := by show _ = _; unfold nu6; rw [if_neg he]
    have g1 : (e != 0) = true := by rw [bne_iff_ne]; exact he
    rw [HQ.out]
    clear he
    go_enter Tryz.func69, Tryz.ntmps69
    go_wp2
    go_ret
    exact ⟨rfl, Touch.refl _ _, _, _, _, HS.out⟩
end
end Go.Proofs.YtlhididcanedhaaGreatDoor
/- The document's own scan of records: byte, pair, head. -/
namespace Go.Proofs.YtlhididcanedhaaGreatDoor
open Go.RowKit Go.Wire1

def t40 (x : Nat) : Int := ((min x 1099511627776 : Nat) : Int)
theorem nu6_lt {l : List Int} {e : Int} (hy : Byt l) : (nu6 l e).1 < 18446744073709551616 := by
  unfold nu6
  split
  · unfold rWh
    split
    · rename_i x m hd; exact dec_lt hy hd
    · show (0 : Nat) < _; omega
  · show (0 : Nat) < _; omega
theorem nu6_byt {l : List Int} {e : Int} (hy : Byt l) : Byt (nu6 l e).2.1 := by
  unfold nu6
  split
  · unfold rWh
    split
    · exact byt_drop hy _
    · exact hy
  · exact hy
section
variable (w0 : World) (g : Nat)
set_option maxHeartbeats 4000000 in
set_option maxRecDepth 100000 in
theorem byte6_any (l : List Int) (e : Int) (w : World) (h : S6x w0 w g l e) :
    Calls Tryz.prog 30 #[.pointer (some ⟨g, 0, none⟩)] w fun r w' => r = .returned (.int .i64 (oc6 l e).1) ∧ Touch g w w' ∧ S6x w0 w' g (oc6 l e).2.1 (oc6 l e).2.2 := by
  obtain ⟨sa, m, cap, h⟩ := h
  have c0 : w.cell? ⟨g, 0, none⟩ = some (.slice sa m cap) := h.box.cell 0 _ rfl
  have c1 : w.cell? ⟨g, 1, none⟩ = some (.int .i64 e) := h.box.cell 1 _ rfl
  have t0 := h.box.thaw 0
  have t1 := h.box.thaw 1
  have HS := hide h
  have hl : l.length = m := h.seg.1
  clear h
  by_cases he : e = 0
  · subst he
    cases l with
    | nil =>
      have hm0 : m = 0 := by rw [← hl]; rfl
      subst hm0
      have HQ : Hid (oc6 [] 0 = (0, [], 11)) := rfl
      rw [HQ.out]
      have R := hide (HS.out.put 11)
      go_enter Tryz.func30, Tryz.ntmps30
      go_wp2
      go_ret
      exact ⟨rfl, R.out.2, _, _, _, R.out.1⟩
    | cons x t =>
      have hm0 : 0 < m := by rw [← hl]; simp
      have HQ : Hid (oc6 (x :: t) 0 = (x, t, 0)) := rfl
      rw [HQ.out]
      have hxb := HS.out.byt x (by simp)
      have hw1 : IntKind.i64.wrap x = x := by rw [IntKind.wrap_i64]; omega
      have hP := HS.out.pass 1 (by omega)
      have SG := HS.out.seg.below HS.out.low (Nat.le_refl _)
      obtain ⟨sb, so, rfl, hc⟩ := SG.2.2 hm0
      have x0 : w.cell? ⟨sb, so, none⟩ = some (.int .u8 x) := by simpa using hc 0 hm0
      clear hc SG HS
      rcases hP with ⟨h1, h2, h3, h5, h6⟩ | ⟨b, off, hb, h2, h3, h5, h6⟩ | ⟨b, off, hb, q1, q2, q3, h5, h6⟩
      · omega
      · cases hb
        subst h2 h3
        have F := hide (And.intro h6 h5)
        clear h5 h6
        go_enter Tryz.func30, Tryz.ntmps30
        go_wp2
        go_ret
        exact ⟨rfl, F.out⟩
      · cases hb
        have F := hide (And.intro h6 h5)
        clear h5 h6
        go_enter Tryz.func30, Tryz.ntmps30
        go_wp2
        go_ret
        exact ⟨rfl, F.out⟩
  · have HQ : Hid (oc6 l e = (0, l, e)) := by show _ = _; unfold oc6; rw [if_neg he]
    have g1 : (e != 0) = true := by rw [bne_iff_ne]; exact he
    rw [HQ.out]
    clear he
    go_enter Tryz.func30, Tryz.ntmps30
    go_wp2
    go_ret
    exact ⟨rfl, Touch.refl _ _, _, _, _, HS.out⟩
set_option maxHeartbeats 1000000 in
set_option maxRecDepth 100000 in
theorem pair6_any (l : List Int) (e : Int) (w : World) (h : S6x w0 w g l e) :
    Calls Tryz.prog 70 #[.pointer (some ⟨g, 0, none⟩)] w fun r w' => r = .returned (.tuple #[.int .i64 (t40 ((nu6 l e).1 / 8)), .int .i64 (((nu6 l e).1 % 8 : Nat) : Int)]) ∧ Touch g w w' ∧ S6x w0 w' g (nu6 l e).2.1 (nu6 l e).2.2 := by
  have hx := nu6_lt (e := e) h.byt
  have HS := hide h
  clear h
  obtain ⟨x, hxx⟩ : ∃ x, Hid ((nu6 l e).1 = x) := ⟨_, rfl⟩
  rw [hxx.out] at hx ⊢
  by_cases hb : 1099511627776 < x / 8
  · have HQ : Hid (t40 (x / 8) = 1099511627776) := by show _ = _; unfold t40; rw [Nat.min_eq_right (by omega)]; rfl
    rw [HQ.out]
    go_enter Tryz.func70, Tryz.ntmps70
    go_wp2_with fail
    refine (number6_any w0 g l e _ HS.out).mono ?_
    rintro r w1 ⟨rfl, F1⟩
    have F := hide F1
    clear F1
    rw [hxx.out]
    go_wp2
    all_goals first | (exfalso; omega) | skip
    go_ret2
    exact ⟨by first | rfl | (simp; omega), F.out⟩
  · have HQ : Hid (t40 (x / 8) = ((x / 8 : Nat) : Int)) := by show _ = _; unfold t40; rw [Nat.min_eq_left (by omega)]
    rw [HQ.out]
    go_enter Tryz.func70, Tryz.ntmps70
    go_wp2_with fail
    refine (number6_any w0 g l e _ HS.out).mono ?_
    rintro r w1 ⟨rfl, F1⟩
    have F := hide F1
    clear F1
    rw [hxx.out]
    go_wp2
    all_goals first | (exfalso; omega) | skip
    go_ret2
    exact ⟨by first | rfl | (simp; omega), F.out⟩
end
end Go.Proofs.YtlhididcanedhaaGreatDoor
