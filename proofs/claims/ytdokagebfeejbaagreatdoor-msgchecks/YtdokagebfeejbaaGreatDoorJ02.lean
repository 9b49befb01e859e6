/- Texts of the proof, joined. -/
import Derived.Test.YtdokagebfeejbaaGreatDoorRows
import Derived.Test.YtdokagebfeejbaaGreatDoorJ01
import Derived.WalkKit
import Derived.Deep.QuietTactic
import Derived.BigQuiet
import Derived.Test.YtdokagebfeejbaaGreatDoorChecked
import Derived.LaidEql
import Derived.Stop.Asserts
import Derived.RowKitTokens
/- The contracts of PutUint, fold and PutInt: what they hand back is new memory that holds just the form of the number. -/
namespace Go.Proofs.YtdokagebfeejbaaGreatDoor
open Go.RowKit Go.Wire1

theorem Tryz.info5 : (Tryz.prog.info? 5).map (fun i => (i.zero, i.size, i.bytes)) = some (some (.int .u8 0), 1, 1) := by kernel_rfl

set_option maxHeartbeats 400000 in
set_option maxRecDepth 100000 in
theorem putUint_any (x : Nat) (w : World) (hx : x < 18446744073709551616) :
    Calls Tryz.prog 92 #[.int .u64 (x : Int)] w fun e w' => ∃ v, e = .returned v ∧ w'.ownsRow w.heap.size 5 1 v (enc x).length ((enc x).map (Value.int .u8)) ∧ Below w.heap.size w w' := by
  obtain ⟨i0, hi, hz0, hz1, hz2⟩ := info_parts Tryz.info5
  go_enter Tryz.func92, Tryz.ntmps92
  go_wp2
  go_loopw [0, 3] (fun s v wr => ∃ (y : Nat) (pre : List Int) (f : Nat), s = .int .u64 (y : Int) ∧ y < 18446744073709551616 ∧ Hid (y < 128 ^ (f + 1)) ∧ pre.length + f = 9 ∧ Hid (pre ++ encF (f + 1) y = enc x) ∧ wr.ownsRow w.heap.size 5 1 v pre.length (pre.map (Value.int .u8)) ∧ Below w.heap.size w wr)
    (fun s _ _ => (intOf s).toNat)
  case atStart => exact ⟨x, [], 9, rfl, hx, pow10 x hx, rfl, rfl, World.ownsRow_nil _ _ _ _, Below.refl _ _⟩
  case round =>
    obtain ⟨y, pre, f, rfl, hy, HP, hf, HE, hown, hbel⟩ := hrel
    have hsz := hbel.size
    have hpl : pre.length ≤ 9 := by omega
    have HF : Hid (pre.length + f = 9) := hf
    clear hf
    by_cases hc : 128 ≤ y
    · go_wp2_with (first
        | (at_builtin; refine wpList_append_own _ rfl _ _ 42 rfl w.heap.size 5 i0 (.int .u8 0) 1 1 Tryz.underlying42 hi hz0 hz1 hz2 rfl (by decide) _ _ _ rfl (hown.alloc _) ⟨wr.heap.size, 0, none⟩ 1 1 [.int .u8 (bits .or .u8 ((y : Int) % 256) 128)] rfl rfl ?c1 ?c2 ?c3 ?c4 ?c5 ?_))
      case c1 =>
        intro j u hj
        match j, hj with
        | 0, hj => simp at hj; subst hj; simp [Addr.add]
      case c2 => intro u hu; simp at hu; subst hu; rfl
      case c3 => unfold maxLen; omega
      case c4 => omega
      case c5 => simp; omega
      intro v' w1 hown' hgrow _
      rw [bits_or128] at hown'
      have R := push hsz hown hbel hown' hgrow
      clear hown' hgrow hown
      obtain ⟨g, rfl, hg⟩ := pow128 f y HP.out hc
      have HG : Hid (y / 128 < 128 ^ (g + 1)) := hg
      clear hg
      go_wp2
      go_roundw
      case rel => exact ⟨y / 128, pre ++ [((y % 128 + 128 : Nat) : Int)], g, by go_num, by omega, HG, by have := HF.out; simp; omega, by have := HE.out; rw [encF_big _ _ hc] at this; simpa [Hid] using this, R.1, R.2⟩
      case measure => simp [intOf]; omega
    · go_wp2_with (first
        | (at_builtin; refine wpList_append_own _ rfl _ _ 42 rfl w.heap.size 5 i0 (.int .u8 0) 1 1 Tryz.underlying42 hi hz0 hz1 hz2 rfl (by decide) _ _ _ rfl (hown.alloc _) ⟨wr.heap.size, 0, none⟩ 1 1 [.int .u8 (y : Int)] rfl rfl ?d1 ?d2 ?d3 ?d4 ?d5 ?_))
      case d1 =>
        intro j u hj
        match j, hj with
        | 0, hj => simp at hj; subst hj; simp [Addr.add]
      case d2 => intro u hu; simp at hu; subst hu; rfl
      case d3 => unfold maxLen; omega
      case d4 => omega
      case d5 => simp; omega
      intro v' w1 hown' hgrow _
      have R := push hsz hown hbel hown' hgrow
      clear hown' hgrow hown
      have HQ : Hid (pre ++ [(y : Int)] = enc x) := by have := HE.out; rw [encF_small _ _ (by omega)] at this; exact this
      go_wp2
      go_ret
      rw [HQ.out] at R
      exact ⟨_, rfl, R.1, R.2⟩
set_option maxHeartbeats 400000 in
set_option maxRecDepth 100000 in
theorem fold_any (x : Int) (w : World) (h1 : -9223372036854775808 ≤ x) (h2 : x ≤ 9223372036854775807) :
    Calls Tryz.prog 178 #[.int .i64 x] w fun e w' => e = .returned (.int .u64 (zig x : Nat)) ∧ w' = w := by
  by_cases hc : 0 ≤ x
  · go_enter Tryz.func178, Tryz.ntmps178
    go_wp2
    go_ret
    exact ⟨ret_int (zig_pos x hc h2), rfl⟩
  · go_enter Tryz.func178, Tryz.ntmps178
    go_wp2
    go_ret
    exact ⟨ret_int (zig_neg x (by omega) h1), rfl⟩

set_option maxHeartbeats 400000 in
set_option maxRecDepth 100000 in
theorem putInt_any (x : Int) (w : World) (h1 : -9223372036854775808 ≤ x) (h2 : x ≤ 9223372036854775807) :
    Calls Tryz.prog 173 #[.int .i64 x] w fun e w' => ∃ v, e = .returned v ∧ w'.ownsRow w.heap.size 5 1 v (enc (zig x)).length ((enc (zig x)).map (Value.int .u8)) ∧ Below w.heap.size w w' := by
  have hz := zig_lt x h1 h2
  go_enter Tryz.func173, Tryz.ntmps173
  go_wp2_with fail
  refine (fold_any x _ h1 h2).mono ?_
  rintro e w' ⟨rfl, rfl⟩
  go_wp2_with fail
  refine (putUint_any (zig x) _ hz).mono ?_
  rintro e w' ⟨v, rfl, hown, hbel⟩
  go_wp2
  go_ret
  exact ⟨_, rfl, hown, hbel⟩
end Go.Proofs.YtdokagebfeejbaaGreatDoor
/- The contracts of the cursor's methods left, next, tenth, number, unfold and signed: what they answer or give up with, and where they leave the place. -/
namespace Go.Proofs.YtdokagebfeejbaaGreatDoor
open Go.RowKit Go.Wire1

/-- What the panics carry. -/
abbrev errV (a : Addr) : Value := .iface 205 (.pointer (some a))

/-- The five sentinels: where they lie, that they are five, that nothing of them is frozen. -/
structure Errs (w : World) (a : Nat → Addr) : Prop where
  s0 : w.cell? ⟨1, 0, none⟩ = some (errV (a 0))
  s1 : w.cell? ⟨2, 0, none⟩ = some (errV (a 1))
  s2 : w.cell? ⟨3, 0, none⟩ = some (errV (a 2))
  s3 : w.cell? ⟨4, 0, none⟩ = some (errV (a 3))
  s4 : w.cell? ⟨5, 0, none⟩ = some (errV (a 4))
  blk : ∀ i, i < 5 → ∃ c t, w.heap[(a i).block]? = some (.cells c t (0, 0))
  ne : ∀ i j, i < 5 → j < 5 → i ≠ j → a i ≠ a j
  room : 7 ≤ w.heap.size

theorem Errs.below {w w' : World} {a : Nat → Addr} {B : Nat} (h : Errs w a) (hb : Below B w w') (hB : w.heap.size ≤ B) : Errs w' a := by
  have key : ∀ g, (∃ v, w.cell? ⟨g, 0, none⟩ = some v) → w'.cell? ⟨g, 0, none⟩ = w.cell? ⟨g, 0, none⟩ := fun g ⟨v, hv⟩ => hb.cell (p := ⟨g, 0, none⟩) (by have := cell_lt hv; show g < B; omega)
  refine ⟨(key _ ⟨_, h.s0⟩).trans h.s0, (key _ ⟨_, h.s1⟩).trans h.s1, (key _ ⟨_, h.s2⟩).trans h.s2, (key _ ⟨_, h.s3⟩).trans h.s3, (key _ ⟨_, h.s4⟩).trans h.s4, fun i hi => ?_, h.ne, Nat.le_trans h.room hb.size⟩
  obtain ⟨c, t, e⟩ := h.blk i hi
  have := (Array.getElem?_eq_some_iff.1 e).1
  exact ⟨c, t, (hb.block _ (by omega)).trans e⟩

theorem Errs.only {w w' : World} {a : Nat → Addr} {b p : Nat} (h : Errs w a) (ho : Only b p w w') (h5 : 7 ≤ b) (hs : ∀ i, i < 5 → (a i).block ≠ b) : Errs w' a := by
  have key : ∀ g, g < 7 → w'.cell? ⟨g, 0, none⟩ = w.cell? ⟨g, 0, none⟩ := fun g hg => World.cell?_of_block (w := w) (ho.block g (by omega))
  exact ⟨(key _ (by decide)).trans h.s0, (key _ (by decide)).trans h.s1, (key _ (by decide)).trans h.s2, (key _ (by decide)).trans h.s3, (key _ (by decide)).trans h.s4, fun i hi => by
    obtain ⟨c, t, e⟩ := h.blk i hi; exact ⟨c, t, (ho.block _ (hs i hi)).trans e⟩, h.ne, by rw [ho.size]; exact h.room⟩

theorem Errs.lt {w : World} {a : Nat → Addr} (h : Errs w a) (i : Nat) (hi : i < 5) : (a i).block < w.heap.size := by
  obtain ⟨c, t, e⟩ := h.blk i hi
  exact (Array.getElem?_eq_some_iff.1 e).1
theorem Errs.five {w : World} {a : Nat → Addr} (h : Errs w a) : 7 ≤ w.heap.size := h.room
theorem Errs.drewN {w : World} {a : Nat → Addr} (h : Errs w a) (q : Nat) : Errs (w.drewN q) a := ⟨h.s0, h.s1, h.s2, h.s3, h.s4, h.blk, h.ne, h.room⟩

set_option maxHeartbeats 400000 in
set_option maxRecDepth 100000 in
theorem left_any (b o n cap : Nat) (sa : Option Addr) (k : Nat) (w : World) (hc : Cur w b o sa n cap k) (hk : k ≤ n) (hn : n ≤ maxLen) :
    Calls Tryz.prog 131 #[.pointer (some ⟨b, o, none⟩)] w fun e w' => e = .returned (.int .i64 ((n : Int) - (k : Int))) ∧ ∃ q, w' = w.drewN q := by
  obtain ⟨c0, c1, _⟩ := hc
  unfold maxLen at hn
  go_enter Tryz.func131, Tryz.ntmps131
  go_wp2
  go_quiet (fail)
  go_wp2
  go_ret
  exact ⟨rfl, _, rfl⟩

set_option maxHeartbeats 400000 in
set_option maxRecDepth 100000 in
theorem next_ok (b o n cap : Nat) (sa : Option Addr) (l : List Int) (k : Nat) (w : World) (hc : Cur w b o sa n cap k) (hs : Seg w sa n l) (hk : k < n) :
    Calls Tryz.prog 116 #[.pointer (some ⟨b, o, none⟩)] w fun e w' => e = .returned (.int .u8 (l.getD k 0)) ∧ Only b (o + 1) w w' ∧ Cur w' b o sa n cap (k + 1) := by
  have hc' := hc
  obtain ⟨c0, c1, f1⟩ := hc
  obtain ⟨hl, hn, hs⟩ := hs
  obtain ⟨sb, so, rfl, hcell⟩ := hs (by omega)
  have hcl := hcell k hk
  have HL : Hid (l.length = n) := hl
  have hn' := hn
  unfold maxLen at hn'
  clear hs hl hcell
  generalize l.getD k 0 = z at hcl ⊢
  have h0 : (((n : Int) - (k : Int)) == 0) = false := by simp; omega
  go_enter Tryz.func116, Tryz.ntmps116
  go_wp2_with fail
  refine (left_any b o n cap _ k _ hc' (by omega) hn).mono ?_
  rintro e w1 ⟨rfl, q, rfl⟩
  go_wp2_with fail
  go_quiet (fail)
  go_wp2
  go_ret
  refine ⟨rfl, ((Only.refl b (o + 1) w).drewN _).setCell _, hc'.step _⟩

set_option maxHeartbeats 400000 in
set_option maxRecDepth 100000 in
theorem next_end (b o n cap : Nat) (sa : Option Addr) (a : Nat → Addr) (w : World) (hc : Cur w b o sa n cap n) (hn : n ≤ maxLen) (he : Errs w a) :
    Calls Tryz.prog 116 #[.pointer (some ⟨b, o, none⟩)] w fun e w' => e = .panicked [{ v := errV (a 0), recovered := false }] ∧ Only b (o + 1) w w' ∧ Cur w' b o sa n cap n := by
  have e0 := he.s0
  have hn' := hn
  unfold maxLen at hn'
  have h0 : (((n : Int) - (n : Int)) == 0) = true := by simp
  go_enter Tryz.func116, Tryz.ntmps116
  go_wp2_with fail
  refine (left_any b o n cap _ n _ hc (by omega) hn).mono ?_
  rintro e w1 ⟨rfl, q, rfl⟩
  go_wp2
  exact ⟨rfl, rfl, (Only.refl b (o + 1) w).drewN _, hc.drewN _⟩

/-- What a reading comes to: the number, the place behind it; or a panic with the sentinel. -/
def Out (a : Nat → Addr) (r : Except Nat (Nat × Nat)) (e : Ending) (k k' : Nat) : Prop :=
  match r with
  | .ok (x, m) => e = .returned (.int .u64 (x : Int)) ∧ k' = k + m
  | .error i => e = .panicked [{ v := errV (a i), recovered := false }]

set_option maxHeartbeats 400000 in
set_option maxRecDepth 100000 in
theorem tenth_any (b o n cap : Nat) (sa : Option Addr) (l : List Int) (k : Nat) (a : Nat → Addr) (w : World) (hc : Cur w b o sa n cap k) (hs : Seg w sa n l) (hk : k ≤ n) (he : Errs w a) (h5 : 7 ≤ b) (hab : ∀ i, i < 5 → (a i).block ≠ b) :
    Calls Tryz.prog 117 #[.pointer (some ⟨b, o, none⟩)] w fun e w' => Only b (o + 1) w w' ∧ ∃ k', Cur w' b o sa n cap k' ∧ k' ≤ n ∧ Out a (decF 0 false (l.drop k)) e k k' := by
  have hn := hs.2.1
  by_cases hkn : k = n
  · subst hkn
    have hd : l.drop k = [] := by rw [List.drop_eq_nil_iff]; rw [hs.1]; exact Nat.le_refl _
    rw [hd]
    go_enter Tryz.func117, Tryz.ntmps117
    go_wp2_with fail
    refine (next_end b o k cap _ a _ hc hn he).mono ?_
    rintro e w1 ⟨rfl, ho, hc1⟩
    exact ⟨rfl, ho, k, hc1, Nat.le_refl _, rfl⟩
  · have hlt : k < n := by omega
    have HD : Hid (l.drop k = l.getD k 0 :: l.drop (k + 1)) := drop_cons (by rw [hs.1]; exact hlt)
    by_cases z0 : l.getD k 0 = 0
    · have HR : Hid (decF 0 false (l.drop k) = .error 2) := by rw [HD.out]; exact decF_tenth0 _ _ _ z0
      go_enter Tryz.func117, Tryz.ntmps117
      go_wp2_with fail
      refine (next_ok b o n cap _ l k _ hc hs hlt).mono ?_
      rintro e w1 ⟨rfl, ho, hc1⟩
      rw [z0]
      have e2 := (he.only ho h5 hab).s2
      go_wp2
      refine ⟨rfl, ho, k + 1, hc1, by omega, ?_⟩
      rw [HR.out]; rfl
    · by_cases z1 : l.getD k 0 = 1
      · have HR : Hid (decF 0 false (l.drop k) = .ok (1, 1)) := by rw [HD.out]; exact decF_tenth1 _ _ _ z1
        go_enter Tryz.func117, Tryz.ntmps117
        go_wp2_with fail
        refine (next_ok b o n cap _ l k _ hc hs hlt).mono ?_
        rintro e w1 ⟨rfl, ho, hc1⟩
        rw [z1]
        go_wp2
        go_ret
        refine ⟨ho, k + 1, hc1, by omega, ?_⟩
        rw [HR.out]; exact ⟨rfl, rfl⟩
      · have HR : Hid (decF 0 false (l.drop k) = .error 1) := by rw [HD.out]; exact decF_tenth2 _ _ _ z0 z1
        have b0 : (l.getD k 0 == 0) = false := beq_eq_false_iff_ne.2 z0
        have b1 : (l.getD k 0 == 1) = false := beq_eq_false_iff_ne.2 z1
        go_enter Tryz.func117, Tryz.ntmps117
        go_wp2_with fail
        refine (next_ok b o n cap _ l k _ hc hs hlt).mono ?_
        rintro e w1 ⟨rfl, ho, hc1⟩
        clear z0 z1
        generalize l.getD k 0 = z at *
        have e2 := (he.only ho h5 hab).s1
        go_wp2
        refine ⟨rfl, ho, k + 1, hc1, by omega, ?_⟩
        rw [HR.out]; rfl

end Go.Proofs.YtdokagebfeejbaaGreatDoor
/- The contracts of the cursor's number, of unfold and of signed. -/
namespace Go.Proofs.YtdokagebfeejbaaGreatDoor
open Go.RowKit Go.Wire1

set_option maxHeartbeats 1000000 in
set_option maxRecDepth 100000 in
theorem number_any (b o n cap : Nat) (sa : Option Addr) (l : List Int) (k : Nat) (a : Nat → Addr) (w : World) (hc : Cur w b o sa n cap k) (hs : Seg w sa n l) (hsep : ∀ x, sa = some x → 0 < n → x.block ≠ b) (hy : Byt l) (hk : k ≤ n) (he : Errs w a) (h5 : 7 ≤ b) (hab : ∀ i, i < 5 → (a i).block ≠ b) :
    Calls Tryz.prog 103 #[.pointer (some ⟨b, o, none⟩)] w fun e w' => Only b (o + 1) w w' ∧ ∃ k', Cur w' b o sa n cap k' ∧ k' ≤ n ∧ Out a (dec (l.drop k)) e k k' := by
  have hn := hs.2.1
  go_enter Tryz.func103, Tryz.ntmps103
  go_wp2
  go_loopw [3, 6] (fun s c wr => ∃ (x i : Nat), s = .int .u64 (x : Int) ∧ c = .int .i64 (i : Int) ∧ i ≤ 9 ∧ Hid (x < 128 ^ i) ∧ k + i ≤ n ∧ Only b (o + 1) w wr ∧ Cur wr b o sa n cap (k + i) ∧ Hid (dec (l.drop k) = comb x i (decF (9 - i) (decide (i = 0)) (l.drop (k + i)))))
    (fun _ c _ => 9 - (intOf c).toNat)
  case atStart => exact ⟨0, 0, rfl, rfl, by omega, by simp [Hid], by omega, Only.refl _ _ _, hc, comb_zero _⟩
  case round =>
    obtain ⟨x, i, rfl, rfl, hi, HX, hki, ho, hcur, HR⟩ := hrel
    have hs' := ho.seg hs hsep
    have he' := he.only ho h5 hab
    by_cases h9 : i < 9
    · obtain ⟨f, hf⟩ : ∃ f, 9 - i = f + 1 := ⟨8 - i, by omega⟩
      rw [hf] at HR
      by_cases hkn : k + i = n
      · have HQ : Hid (dec (l.drop k) = .error 0) := by
          have h1 := HR.out
          have hd : l.drop (k + i) = [] := by rw [List.drop_eq_nil_iff, hs.1]; omega
          rw [hd, decF_nil] at h1; exact h1
        rw [hkn] at hcur
        go_wp2_with fail
        refine (next_end b o n cap _ a _ hcur hn he').mono ?_
        rintro e w1 ⟨rfl, ho1, hc1⟩
        go_wp2
        refine ⟨rfl, ho.trans ho1, n, hc1, Nat.le_refl _, ?_⟩
        rw [HQ.out]; rfl
      · have hz := byt_at hy (k + i)
        have HD : Hid (l.drop (k + i) = l.getD (k + i) 0 :: l.drop (k + i + 1)) := drop_cons (by rw [hs.1]; omega)
        go_wp2_with fail
        refine (next_ok b o n cap _ l (k + i) _ hcur hs' (by omega)).mono ?_
        rintro e w1 ⟨rfl, ho1, hc1⟩
        generalize l.getD (k + i) 0 = z at *
        have HO : Hid (Only b (o + 1) w w1) := ho.trans ho1
        have he1 := he'.only ho1 h5 hab
        by_cases hbig : 128 ≤ z
        · go_wp2
          refine ⟨⟨x + 128 ^ i * (z.toNat % 128), i + 1, by rw [or_step x i z HX.out h9 hz], by go_num, by omega, step_lt _ _ _ HX.out (Nat.mod_lt _ (by decide)), by omega, HO, hc1, ?_⟩, by simp [intOf]; omega⟩
          have h1 := HR.out
          rw [HD.out, decF_more _ _ _ _ _ _ hbig] at h1
          have e1 : 9 - (i + 1) = f := by omega
          have e2 : z.toNat % 128 = (z - 128).toNat := by omega
          have e3 : decide (i + 1 = 0) = false := by simp
          rw [e1, e2, e3]; exact h1
        · by_cases h0 : z = 0 ∧ 0 < i
          · obtain ⟨rfl, hi0⟩ := h0
            have HQ : Hid (dec (l.drop k) = .error 2) := by
              have h1 := HR.out
              have e3 : decide (i = 0) = false := by simp; omega
              rw [HD.out, e3, decF_form _ _ _ rfl] at h1; exact h1
            have e2 := he1.s2
            go_wp2
            refine ⟨rfl, HO, k + i + 1, hc1, by omega, ?_⟩
            rw [HQ.out]; rfl
          · have HQ : Hid (dec (l.drop k) = .ok (x + 128 ^ i * (z.toNat % 128), i + 1)) := by
              have h1 := HR.out
              have e2 : z.toNat % 128 = z.toNat := by omega
              rw [HD.out, decF_last _ _ _ _ (by omega) (by simp; omega)] at h1
              rw [e2]; exact h1
            have hdec : (z = 0 ∧ i = 0) ∨ ¬ z = 0 := by omega
            clear h0
            rcases hdec with ⟨rfl, rfl⟩ | hz0
            · go_wp2
              go_ret
              refine ⟨HO, k + 0 + 1, hc1, by omega, ?_⟩
              rw [HQ.out]
              exact ⟨ret_int (by rw [← or_step x 0 0 HX.out (by omega) hz]; rfl), by omega⟩
            · have hb0 : (z == 0) = false := beq_eq_false_iff_ne.2 hz0
              go_wp2
              go_ret
              refine ⟨HO, k + i + 1, hc1, by omega, ?_⟩
              rw [HQ.out]
              exact ⟨ret_int (or_step x i z HX.out h9 hz), by omega⟩
    · obtain rfl : i = 9 := by omega
      go_wp2_with fail
      refine (tenth_any b o n cap _ l (k + 9) a _ hcur hs' hki he' h5 hab).mono ?_
      rintro e w1 ⟨ho1, k', hc1, hk', hout⟩
      have h1 := HR.out
      have e1 : 9 - 9 = 0 := rfl
      have e3 : decide (9 = 0) = false := rfl
      rw [e1, e3] at h1
      have HO : Hid (Only b (o + 1) w w1) := ho.trans ho1
      cases hd : decF 0 false (l.drop (k + 9)) with
      | error j =>
        rw [hd] at hout h1
        have HQ : Hid (dec (l.drop k) = .error j) := h1
        obtain rfl : e = _ := hout
        clear h1 hd HR
        go_wp2
        refine ⟨rfl, HO, k', hc1, hk', ?_⟩
        rw [HQ.out]; rfl
      | ok p =>
        obtain ⟨y, m⟩ := p
        obtain rfl : y = 1 := decF_one hd
        rw [hd] at hout h1
        obtain ⟨rfl, HK⟩ := hout
        have HK : Hid (k' = k + 9 + m) := HK
        have HQ : Hid (dec (l.drop k) = .ok (x + 128 ^ 9 * 1, 9 + m)) := h1
        clear h1 hd HR
        go_wp2
        go_ret
        refine ⟨HO, k', hc1, hk', ?_⟩
        rw [HQ.out]
        exact ⟨ret_int (or_tenth x HX.out), by have := HK.out; omega⟩

set_option maxHeartbeats 400000 in
set_option maxRecDepth 100000 in
theorem unfold_any (u : Nat) (w : World) (hu : u < 18446744073709551616) :
    Calls Tryz.prog 144 #[.int .u64 (u : Int)] w fun e w' => e = .returned (.int .i64 (unzig u)) ∧ w' = w := by
  go_enter Tryz.func144, Tryz.ntmps144
  go_wp2
  go_ret
  exact ⟨ret_int (unzig_bits u hu), rfl⟩

/-- What a reading of a signed number comes to. -/
def OutI (a : Nat → Addr) (r : Except Nat (Nat × Nat)) (e : Ending) (k k' : Nat) : Prop :=
  match r with
  | .ok (x, m) => e = .returned (.int .i64 (unzig x)) ∧ k' = k + m
  | .error i => e = .panicked [{ v := errV (a i), recovered := false }]

set_option maxHeartbeats 400000 in
set_option maxRecDepth 100000 in
theorem signed_any (b o n cap : Nat) (sa : Option Addr) (l : List Int) (k : Nat) (a : Nat → Addr) (w : World) (hc : Cur w b o sa n cap k) (hs : Seg w sa n l) (hsep : ∀ x, sa = some x → 0 < n → x.block ≠ b) (hy : Byt l) (hk : k ≤ n) (he : Errs w a) (h5 : 7 ≤ b) (hab : ∀ i, i < 5 → (a i).block ≠ b) :
    Calls Tryz.prog 141 #[.pointer (some ⟨b, o, none⟩)] w fun e w' => Only b (o + 1) w w' ∧ ∃ k', Cur w' b o sa n cap k' ∧ k' ≤ n ∧ OutI a (dec (l.drop k)) e k k' := by
  go_enter Tryz.func141, Tryz.ntmps141
  go_wp2_with fail
  refine (number_any b o n cap sa l k a _ hc hs hsep hy hk he h5 hab).mono ?_
  rintro e w1 ⟨ho, k', hc1, hk', hout⟩
  cases hd : dec (l.drop k) with
  | error i =>
    rw [hd] at hout
    obtain rfl : e = _ := hout
    have HD : Hid (dec (l.drop k) = .error i) := hd
    clear hd
    go_wp2
    refine ⟨rfl, ho, k', hc1, hk', ?_⟩
    rw [HD.out]; rfl
  | ok p =>
    obtain ⟨x, m⟩ := p
    have hx := dec_lt (fun z hz => hy z (List.mem_of_mem_drop hz)) hd
    rw [hd] at hout
    obtain ⟨rfl, HK⟩ := hout
    have HK : Hid (k' = k + m) := HK
    have HD : Hid (dec (l.drop k) = .ok (x, m)) := hd
    clear hd
    go_wp2_with fail
    refine (unfold_any x _ hx).mono ?_
    rintro e w2 ⟨rfl, rfl⟩
    go_wp2
    go_ret
    refine ⟨ho, k', hc1, hk', ?_⟩
    rw [HD.out]; exact ⟨rfl, HK.out⟩

end Go.Proofs.YtdokagebfeejbaaGreatDoor
/- The contracts of errors.Is at two sentinels of the same making: the very same one, or two different ones. -/
namespace Go.Proofs.YtdokagebfeejbaaGreatDoor
open Go.RowKit Go.Extern.Stop Go.Stop Go.Extern

def isCmp (t : TypeId) : Sem Value := do
  Extern.Rtype.noPackHeld "Comparable" t
  pure (.bool (← typeInfo t).comparable)
theorem isTypeOf (v : Value) (w : World) : (Extern.ReflectliteType.typeOf #[.iface 205 v]).run Tryz.prog w = .ok (.iface 191 (.agg #[.pointer (some ⟨7, 205, none⟩)])) w := by kernel_rfl
theorem isComparable (w : World) : (Extern.ReflectliteType.method isCmp #[.agg #[.pointer (some ⟨7, 205, none⟩)]]).run Tryz.prog w = .ok (.bool true) w := by kernel_rfl
theorem isComp : (Tryz.prog.info? 205).map (·.comparable) = some true := by kernel_rfl
theorem isSize : (Tryz.prog.info? 249).map (·.size) = some 1 := by kernel_rfl
theorem noIsE (v : Value) (xT : TypeId) (w : World) : (Instr.typeAssert (.iface 205 v) xT 193 true).run Tryz.prog w = .ok (.tuple #[.nilIface, .bool false]) w := run_typeAssert_lacksB Tryz.underlying193 (by kernel_rfl) (by kernel_rfl) v xT w
theorem noUnwrapE (v : Value) (xT : TypeId) (w : World) : (Instr.typeAssert (.iface 205 v) xT 196 true).run Tryz.prog w = .ok (.tuple #[.nilIface, .bool false]) w := run_typeAssert_lacksB Tryz.underlying196 (by kernel_rfl) (by kernel_rfl) v xT w
theorem noUnwrapsE (v : Value) (xT : TypeId) (w : World) : (Instr.typeAssert (.iface 205 v) xT 198 true).run Tryz.prog w = .ok (.tuple #[.nilIface, .bool false]) w := run_typeAssert_lacksB Tryz.underlying198 (by kernel_rfl) (by kernel_rfl) v xT w
theorem isMethodComparable (v : Value) (w : World) : (Go.method 361 191 v "Comparable").run Tryz.prog w = .ok (201, v) w := by kernel_rfl

set_option maxRecDepth 100000 in
set_option maxHeartbeats 1000000 in
/-- errors.Is(x, x). -/
theorem is_same (a : Addr) (w : World) :
    Calls Tryz.prog 115 #[.iface 205 (.pointer (some a)), .iface 205 (.pointer (some a))] w fun e w' => e = .returned (.bool true) ∧ w' = w := by
  obtain ⟨i, hi, hcmp⟩ := Option.map_eq_some_iff.1 isComp
  obtain ⟨j, hj, hjs⟩ := Option.map_eq_some_iff.1 isSize
  have h8 := @run_callFunc_extern Tryz.prog 129 _ Extern.ReflectliteType.typeOf Tryz.func129 (by kernel_rfl) (by kernel_rfl) (by kernel_rfl) (by kernel_rfl)
  have h32 := @run_callFunc_extern Tryz.prog 201 _ (Extern.ReflectliteType.method isCmp) Tryz.func201 (by kernel_rfl) (by kernel_rfl) (by kernel_rfl) (by kernel_rfl)
  have tT := isTypeOf
  have cT := isComparable
  have mR := isMethodComparable
  have heq := run_eql_iface_ptr_same (P := Tryz.prog) w a Tryz.underlying171 Tryz.underlying205 hi hcmp hj
  go_enter Tryz.func115, Tryz.ntmps115
  go_wp2
  refine wp_loop_rounds 1 ?_
  rw [rounds_succ]
  go_wp2
  go_ret
  exact ⟨rfl, rfl⟩

set_option maxRecDepth 100000 in
set_option maxHeartbeats 1000000 in
/-- errors.Is(x, y), two different ones: false. -/
theorem is_other (a b : Addr) (ca cb : Array Value) (ta tb : TypeId) (w : World) (hne : a ≠ b) (ha : w.heap[a.block]? = some (.cells ca ta (0, 0))) (hb : w.heap[b.block]? = some (.cells cb tb (0, 0))) :
    Calls Tryz.prog 115 #[.iface 205 (.pointer (some a)), .iface 205 (.pointer (some b))] w fun e w' => e = .returned (.bool false) ∧ w' = w := by
  obtain ⟨i, hi, hcmp⟩ := Option.map_eq_some_iff.1 isComp
  obtain ⟨j, hj, hjs⟩ := Option.map_eq_some_iff.1 isSize
  have h8 := @run_callFunc_extern Tryz.prog 129 _ Extern.ReflectliteType.typeOf Tryz.func129 (by kernel_rfl) (by kernel_rfl) (by kernel_rfl) (by kernel_rfl)
  have h32 := @run_callFunc_extern Tryz.prog 201 _ (Extern.ReflectliteType.method isCmp) Tryz.func201 (by kernel_rfl) (by kernel_rfl) (by kernel_rfl) (by kernel_rfl)
  have tT := isTypeOf
  have cT := isComparable
  have mR := isMethodComparable
  have nE := noIsE
  have uE := noUnwrapE
  have vE := noUnwrapsE
  have heq := run_eql_iface_ptr_other (P := Tryz.prog) w Tryz.underlying171 Tryz.underlying205 hi hcmp hj (by rw [hjs]; decide) hne ha hb
  go_enter Tryz.func115, Tryz.ntmps115
  go_wp2
  refine wp_loop_rounds 1 ?_
  rw [rounds_succ]
  go_wp2
  go_ret
  exact ⟨rfl, rfl⟩
end Go.Proofs.YtdokagebfeejbaaGreatDoor
/- The contract of errnoOf at the five sentinels: each has its own number, 11 to 15. -/
namespace Go.Proofs.YtdokagebfeejbaaGreatDoor
open Go.RowKit Go.Wire1 Go.Stop

theorem isError (v : Value) (xT : TypeId) (w : World) : (Instr.typeAssert (.iface 205 v) xT 171 true).run Tryz.prog w = .ok (.tuple #[.iface 205 v, .bool true]) w := run_typeAssert_hasB Tryz.underlying171 (by kernel_rfl) v xT w

set_option maxHeartbeats 1000000 in
set_option maxRecDepth 100000 in
theorem errno_any (i : Nat) (hi : i < 5) (a : Nat → Addr) (w : World) (he : Errs w a) :
    Calls Tryz.prog 102 #[errV (a i)] w fun e w' => e = .returned (.int .i64 (11 + (i : Int))) ∧ w' = w := by
  have hE := isError
  obtain ⟨s0, s1, s2, s3, s4, hb, hne⟩ := he
  have no : ∀ j, j < 5 → j ≠ i → Calls Tryz.prog 115 #[errV (a i), errV (a j)] w fun e w' => e = .returned (.bool false) ∧ w' = w := fun j hj hji => by
    obtain ⟨c, t, h1⟩ := hb i hi
    obtain ⟨c', t', h2⟩ := hb j hj
    exact is_other (a i) (a j) c c' t t' w (hne i j hi hj (fun e => hji e.symm)) h1 h2
  have NO : Hid (∀ j, j < 5 → j ≠ i → Calls Tryz.prog 115 #[errV (a i), errV (a j)] w fun e w' => e = .returned (.bool false) ∧ w' = w) := no
  clear no hb hne
  rcases (by omega : i = 0 ∨ i = 1 ∨ i = 2 ∨ i = 3 ∨ i = 4) with rfl | rfl | rfl | rfl | rfl
  · go_enter Tryz.func102, Tryz.ntmps102
    go_wp2_with fail
    refine (is_same (a 0) _).mono ?_
    rintro e w1 ⟨rfl, rfl⟩
    go_wp2
    go_ret
    exact ⟨rfl, rfl⟩
  · go_enter Tryz.func102, Tryz.ntmps102
    go_wp2_with fail
    refine (NO.out 0 (by decide) (by decide)).mono ?_
    rintro e w1 ⟨rfl, rfl⟩
    go_wp2_with fail
    refine (is_same (a 1) _).mono ?_
    rintro e w1 ⟨rfl, rfl⟩
    go_wp2
    go_ret
    exact ⟨rfl, rfl⟩
  · go_enter Tryz.func102, Tryz.ntmps102
    go_wp2_with fail
    refine (NO.out 0 (by decide) (by decide)).mono ?_
    rintro e w1 ⟨rfl, rfl⟩
    go_wp2_with fail
    refine (NO.out 1 (by decide) (by decide)).mono ?_
    rintro e w1 ⟨rfl, rfl⟩
    go_wp2_with fail
    refine (is_same (a 2) _).mono ?_
    rintro e w1 ⟨rfl, rfl⟩
    go_wp2
    go_ret
    exact ⟨rfl, rfl⟩
  · go_enter Tryz.func102, Tryz.ntmps102
    go_wp2_with fail
    refine (NO.out 0 (by decide) (by decide)).mono ?_
    rintro e w1 ⟨rfl, rfl⟩
    go_wp2_with fail
    refine (NO.out 1 (by decide) (by decide)).mono ?_
    rintro e w1 ⟨rfl, rfl⟩
    go_wp2_with fail
    refine (NO.out 2 (by decide) (by decide)).mono ?_
    rintro e w1 ⟨rfl, rfl⟩
    go_wp2_with fail
    refine (is_same (a 3) _).mono ?_
    rintro e w1 ⟨rfl, rfl⟩
    go_wp2
    go_ret
    exact ⟨rfl, rfl⟩
  · go_enter Tryz.func102, Tryz.ntmps102
    go_wp2_with fail
    refine (NO.out 0 (by decide) (by decide)).mono ?_
    rintro e w1 ⟨rfl, rfl⟩
    go_wp2_with fail
    refine (NO.out 1 (by decide) (by decide)).mono ?_
    rintro e w1 ⟨rfl, rfl⟩
    go_wp2_with fail
    refine (NO.out 2 (by decide) (by decide)).mono ?_
    rintro e w1 ⟨rfl, rfl⟩
    go_wp2_with fail
    refine (NO.out 3 (by decide) (by decide)).mono ?_
    rintro e w1 ⟨rfl, rfl⟩
    go_wp2_with fail
    refine (is_same (a 4) _).mono ?_
    rintro e w1 ⟨rfl, rfl⟩
    go_wp2
    go_ret
    exact ⟨rfl, rfl⟩
end Go.Proofs.YtdokagebfeejbaaGreatDoor
