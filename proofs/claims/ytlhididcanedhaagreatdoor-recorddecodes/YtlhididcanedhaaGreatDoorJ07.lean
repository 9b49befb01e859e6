/- Texts of the proof, joined. -/
import Derived.Test.YtlhididcanedhaaGreatDoorJ06
import Derived.Lib.OthersKept
import Derived.Test.YtlhididcanedhaaGreatDoorRows
import Derived.Test.YtlhididcanedhaaGreatDoorJ01
import Derived.WalkKit
import Derived.Deep.QuietTactic
import Derived.BigQuiet
/- The contracts of package record's hasExtra and Check. -/
namespace Go.Proofs.YtlhididcanedhaaGreatDoor
open Go.RowKit Go.Wire1

/-- The table's texts. -/
def rowS : List ByteArray := [⟨#[]⟩, ⟨#[119, 110]⟩, ⟨#[105, 98]⟩, ⟨#[105, 98, 115, 99, 113, 100]⟩, ⟨#[105, 98, 99, 113, 100]⟩, ⟨#[105, 99, 113, 100]⟩]
def allS : ByteArray := ⟨#[119, 110, 105, 98, 115, 99, 113, 100]⟩
/-- A text of letters, one byte each. -/
def Lts (s : ByteArray) (xs : List Nat) : Prop := s.size = xs.length ∧ ∀ p (h : p < s.size), (s[p]'h).toNat = xs.getD p 0 ∧ (s[p]'h).toNat < 128 ∧ Ltr (xs.getD p 0)
instance (x : Nat) : Decidable (Ltr x) := by unfold Ltr; infer_instance
theorem lts_of {s : ByteArray} {xs : List Nat} (h1 : s.size = xs.length) (h2 : ∀ p : Fin s.size, (s[p.val]'p.isLt).toNat = xs.getD p.val 0 ∧ (s[p.val]'p.isLt).toNat < 128 ∧ Ltr (xs.getD p.val 0)) : Lts s xs := ⟨h1, fun p h => h2 ⟨p, h⟩⟩
theorem lts_row {k : Nat} (hk : k < 6) : Lts (rowS.getD k ⟨#[]⟩) (rowL.getD k []) := by
  rcases (by omega : k = 0 ∨ k = 1 ∨ k = 2 ∨ k = 3 ∨ k = 4 ∨ k = 5) with rfl | rfl | rfl | rfl | rfl | rfl
  · exact lts_of (s := ⟨#[]⟩) (xs := []) rfl (by decide)
  · exact lts_of (s := ⟨#[119, 110]⟩) (xs := [119, 110]) rfl (by decide)
  · exact lts_of (s := ⟨#[105, 98]⟩) (xs := [105, 98]) rfl (by decide)
  · exact lts_of (s := ⟨#[105, 98, 115, 99, 113, 100]⟩) (xs := [105, 98, 115, 99, 113, 100]) rfl (by decide)
  · exact lts_of (s := ⟨#[105, 98, 99, 113, 100]⟩) (xs := [105, 98, 99, 113, 100]) rfl (by decide)
  · exact lts_of (s := ⟨#[105, 99, 113, 100]⟩) (xs := [105, 99, 113, 100]) rfl (by decide)
theorem lts_next {P : Program} {w : World} {it p : Nat} {s : ByteArray} {xs : List Nat} (hs : Lts s xs) (hk : w.heap[it]? = some (.stringIter s p)) (hp : p < xs.length) (ty : TypeId) :
    (Instr.next (.pointer (some ⟨it, 0, none⟩)) true ty).run P w = .ok (.tuple #[.bool true, .int .i64 (p : Int), .int .i32 (xs.getD p 0 : Nat)]) (w.iterAt it s (p + 1)) := by
  have h : p < s.size := by rw [hs.1]; exact hp
  rw [Lib.run_next_ascii_at w it s p ty hk h (hs.2 p h).2.1, (hs.2 p h).1]
theorem lts_end {P : Program} {w : World} {it p : Nat} {s : ByteArray} {xs : List Nat} (hs : Lts s xs) (hk : w.heap[it]? = some (.stringIter s p)) (hp : ¬ p < xs.length) (ty : TypeId) :
    (Instr.next (.pointer (some ⟨it, 0, none⟩)) true ty).run P w = .ok (.tuple #[.bool false]) w :=
  Lib.run_next_end_at w it s p ty hk (by rw [hs.1]; exact hp)
theorem Lts.ltr {s : ByteArray} {xs : List Nat} (hs : Lts s xs) {p : Nat} (hp : p < xs.length) : Ltr (xs.getD p 0) := (hs.2 p (by rw [hs.1]; exact hp)).2.2
theorem Ltr.lt {x : Nat} (h : Ltr x) : x < 128 := by unfold Ltr at h; omega
/-- The table of rows lies in memory. -/
def Rws (w : World) : Prop := ∀ k, k < 6 → w.cell? ⟨0, k, none⟩ = some (.string (rowS.getD k ⟨#[]⟩))
theorem Rws.lt {w : World} (h : Rws w) : 0 < w.heap.size := cell_lt (h 0 (by omega))
theorem Rws.below {w w' : World} {B : Nat} (h : Rws w) (hb : Below B w w') (hB : w.heap.size ≤ B) : Rws w' := by
  have hl := h.lt
  intro i hi
  rw [hb.cell (p := ⟨0, i, none⟩) (Nat.lt_of_lt_of_le hl hB)]; exact h i hi
theorem Blk.iterAt {w : World} {q it p : Nat} {s : ByteArray} {cs : List Value} (h : Blk w q cs) (hq : q ≠ it) : Blk (w.iterAt it s p) q cs := h.of_block (Lib.iterAt_other _ _ _ _ _ hq)

def exF (r : Rc) (x : Nat) : Bool := !((rowR r.kind).contains x) && !(zeroR r x)
/-- In the midst of a loop over letters: the record's box, the iterator at its place; nothing that came in has turned. -/
structure Lp (w wr : World) (b it : Nat) (s : ByteArray) (p : Nat) (r : Rc) : Prop where
  box : Blk wr b (rcs r)
  iter : wr.heap[it]? = some (.stringIter s p)
  low : Below w.heap.size w wr
theorem Lp.lt {w wr : World} {b it : Nat} {s : ByteArray} {p : Nat} {r : Rc} (h : Lp w wr b it s p r) : it < wr.heap.size := (Array.getElem?_eq_some_iff.1 h.iter).1
theorem Lp.on {w wr w' : World} {b it : Nat} {s : ByteArray} {p : Nat} {r : Rc} (h : Lp w wr b it s p r) (hb : Below wr.heap.size wr w') : Lp w w' b it s p r :=
  ⟨h.box.on hb, (hb.block it h.lt).trans h.iter, h.low.trans (hb.mono h.low.size)⟩
theorem Lp.next {w wr : World} {b it : Nat} {s : ByteArray} {p : Nat} {r : Rc} (h : Lp w wr b it s p r) (h1 : w.heap.size ≤ it) (h2 : b ≠ it) (p' : Nat) : Lp w (wr.iterAt it s p') b it s p' r :=
  ⟨h.box.iterAt h2, Lib.iterAt_heap _ _ _ _ _ h.iter, Lib.below_iterAt h.low h1 _ _⟩
theorem Lp.pos {w wr : World} {b it : Nat} {s : ByteArray} {p : Nat} {r : Rc} (h : Lp w wr b it s p r) : wr.iterPos it = p := by unfold World.iterPos; rw [h.iter]
end Go.Proofs.YtlhididcanedhaaGreatDoor
/- The contract of package record's Check. -/
namespace Go.Proofs.YtlhididcanedhaaGreatDoor
open Go.RowKit Go.Wire1

theorem kindR_nat {k : Int} (h : isKindR k = true) : ∃ j : Nat, k = (j : Int) ∧ j < 6 := by
  simp only [isKindR, Bool.and_eq_true, decide_eq_true_eq] at h
  exact ⟨k.toNat, by omega, by omega⟩
theorem size_nat {n : Int} (h : isSizeB n = true) : ∃ j : Nat, n = (j : Int) ∧ 1 ≤ j ∧ j ≤ 7 := by
  simp only [isSizeB, Bool.and_eq_true, decide_eq_true_eq] at h
  exact ⟨n.toNat, by omega, by omega, by omega⟩

end Go.Proofs.YtlhididcanedhaaGreatDoor
/- The contracts of PutUint, fold and PutInt: what they hand back is new memory that holds just the form of the number. -/
namespace Go.Proofs.YtlhididcanedhaaGreatDoor
open Go.RowKit Go.Wire1

theorem Tryz.info5 : (Tryz.prog.info? 5).map (fun i => (i.zero, i.size, i.bytes)) = some (some (.int .u8 0), 1, 1) := by kernel_rfl

end Go.Proofs.YtlhididcanedhaaGreatDoor
/- The contracts of the cursor's methods left, next, tenth, number, unfold and signed: what they answer or give up with, and where they leave the place. -/
namespace Go.Proofs.YtlhididcanedhaaGreatDoor
open Go.RowKit Go.Wire1

/-- What the panics carry. -/
abbrev errV (a : Addr) : Value := .iface 220 (.pointer (some a))

/-- The five sentinels: where they lie, that they are five, that nothing of them is frozen. -/
structure Errs (w : World) (a : Nat → Addr) : Prop where
  s0 : w.cell? ⟨3, 0, none⟩ = some (errV (a 0))
  s1 : w.cell? ⟨4, 0, none⟩ = some (errV (a 1))
  s2 : w.cell? ⟨5, 0, none⟩ = some (errV (a 2))
  s3 : w.cell? ⟨6, 0, none⟩ = some (errV (a 3))
  s4 : w.cell? ⟨7, 0, none⟩ = some (errV (a 4))
  blk : ∀ i, i < 5 → ∃ c t, w.heap[(a i).block]? = some (.cells c t (0, 0))
  ne : ∀ i j, i < 5 → j < 5 → i ≠ j → a i ≠ a j
  room : 8 ≤ w.heap.size

theorem Errs.below {w w' : World} {a : Nat → Addr} {B : Nat} (h : Errs w a) (hb : Below B w w') (hB : w.heap.size ≤ B) : Errs w' a := by
  have key : ∀ g, (∃ v, w.cell? ⟨g, 0, none⟩ = some v) → w'.cell? ⟨g, 0, none⟩ = w.cell? ⟨g, 0, none⟩ := fun g ⟨v, hv⟩ => hb.cell (p := ⟨g, 0, none⟩) (by have := cell_lt hv; show g < B; omega)
  refine ⟨(key _ ⟨_, h.s0⟩).trans h.s0, (key _ ⟨_, h.s1⟩).trans h.s1, (key _ ⟨_, h.s2⟩).trans h.s2, (key _ ⟨_, h.s3⟩).trans h.s3, (key _ ⟨_, h.s4⟩).trans h.s4, fun i hi => ?_, h.ne, Nat.le_trans h.room hb.size⟩
  obtain ⟨c, t, e⟩ := h.blk i hi
  have := (Array.getElem?_eq_some_iff.1 e).1
  exact ⟨c, t, (hb.block _ (by omega)).trans e⟩

theorem Errs.only {w w' : World} {a : Nat → Addr} {b p : Nat} (h : Errs w a) (ho : Only b p w w') (h5 : 8 ≤ b) (hs : ∀ i, i < 5 → (a i).block ≠ b) : Errs w' a := by
  have key : ∀ g, g < 8 → w'.cell? ⟨g, 0, none⟩ = w.cell? ⟨g, 0, none⟩ := fun g hg => World.cell?_of_block (w := w) (ho.block g (by omega))
  exact ⟨(key _ (by decide)).trans h.s0, (key _ (by decide)).trans h.s1, (key _ (by decide)).trans h.s2, (key _ (by decide)).trans h.s3, (key _ (by decide)).trans h.s4, fun i hi => by
    obtain ⟨c, t, e⟩ := h.blk i hi; exact ⟨c, t, (ho.block _ (hs i hi)).trans e⟩, h.ne, by rw [ho.size]; exact h.room⟩

theorem Errs.lt {w : World} {a : Nat → Addr} (h : Errs w a) (i : Nat) (hi : i < 5) : (a i).block < w.heap.size := by
  obtain ⟨c, t, e⟩ := h.blk i hi
  exact (Array.getElem?_eq_some_iff.1 e).1
theorem Errs.five {w : World} {a : Nat → Addr} (h : Errs w a) : 8 ≤ w.heap.size := h.room
theorem Errs.drewN {w : World} {a : Nat → Addr} (h : Errs w a) (q : Nat) : Errs (w.drewN q) a := ⟨h.s0, h.s1, h.s2, h.s3, h.s4, h.blk, h.ne, h.room⟩

set_option maxHeartbeats 400000 in
set_option maxRecDepth 100000 in
theorem left_any (b o n cap : Nat) (sa : Option Addr) (k : Nat) (w : World) (hc : Cur w b o sa n cap k) (hk : k ≤ n) (hn : n ≤ maxLen) :
    Calls Tryz.prog 190 #[.pointer (some ⟨b, o, none⟩)] w fun e w' => e = .returned (.int .i64 ((n : Int) - (k : Int))) ∧ ∃ q, w' = w.drewN q := by
  obtain ⟨c0, c1, _⟩ := hc
  unfold maxLen at hn
  go_enter Tryz.func190, Tryz.ntmps190
  go_wp2
  go_quiet (fail)
  go_wp2
  go_ret
  exact ⟨rfl, _, rfl⟩

set_option maxHeartbeats 400000 in
set_option maxRecDepth 100000 in
theorem next_ok (b o n cap : Nat) (sa : Option Addr) (l : List Int) (k : Nat) (w : World) (hc : Cur w b o sa n cap k) (hs : Seg w sa n l) (hk : k < n) :
    Calls Tryz.prog 176 #[.pointer (some ⟨b, o, none⟩)] w fun e w' => e = .returned (.int .u8 (l.getD k 0)) ∧ Only b (o + 1) w w' ∧ Cur w' b o sa n cap (k + 1) := by
  have hc' := hc
  obtain ⟨c0, c1, f1⟩ := hc
  obtain ⟨hl, hn, hs⟩ := hs
  obtain ⟨sb, so, rfl, hcell⟩ := hs (by omega)
  have hcl := hcell k hk
  have HL : Hid (l.length = n) := hl
  have hn' := hn
  unfold maxLen at hn'
  clear hs hl hcell
  generalize l.getD k 0 = z at hcl ⊢
  have h0 : (((n : Int) - (k : Int)) == 0) = false := by simp; omega
  go_enter Tryz.func176, Tryz.ntmps176
  go_wp2_with fail
  refine (left_any b o n cap _ k _ hc' (by omega) hn).mono ?_
  rintro e w1 ⟨rfl, q, rfl⟩
  go_wp2_with fail
  go_quiet (fail)
  go_wp2
  go_ret
  refine ⟨rfl, ((Only.refl b (o + 1) w).drewN _).setCell _, hc'.step _⟩

set_option maxHeartbeats 400000 in
set_option maxRecDepth 100000 in
theorem next_end (b o n cap : Nat) (sa : Option Addr) (a : Nat → Addr) (w : World) (hc : Cur w b o sa n cap n) (hn : n ≤ maxLen) (he : Errs w a) :
    Calls Tryz.prog 176 #[.pointer (some ⟨b, o, none⟩)] w fun e w' => e = .panicked [{ v := errV (a 0), recovered := false }] ∧ Only b (o + 1) w w' ∧ Cur w' b o sa n cap n := by
  have e0 := he.s0
  have hn' := hn
  unfold maxLen at hn'
  have h0 : (((n : Int) - (n : Int)) == 0) = true := by simp
  go_enter Tryz.func176, Tryz.ntmps176
  go_wp2_with fail
  refine (left_any b o n cap _ n _ hc (by omega) hn).mono ?_
  rintro e w1 ⟨rfl, q, rfl⟩
  go_wp2
  exact ⟨rfl, rfl, (Only.refl b (o + 1) w).drewN _, hc.drewN _⟩

/-- What a reading comes to: the number, the place behind it; or a panic with the sentinel. -/
def Out (a : Nat → Addr) (r : Except Nat (Nat × Nat)) (e : Ending) (k k' : Nat) : Prop :=
  match r with
  | .ok (x, m) => e = .returned (.int .u64 (x : Int)) ∧ k' = k + m
  | .error i => e = .panicked [{ v := errV (a i), recovered := false }]

set_option maxHeartbeats 400000 in
set_option maxRecDepth 100000 in
theorem tenth_any (b o n cap : Nat) (sa : Option Addr) (l : List Int) (k : Nat) (a : Nat → Addr) (w : World) (hc : Cur w b o sa n cap k) (hs : Seg w sa n l) (hk : k ≤ n) (he : Errs w a) (h5 : 8 ≤ b) (hab : ∀ i, i < 5 → (a i).block ≠ b) :
    Calls Tryz.prog 177 #[.pointer (some ⟨b, o, none⟩)] w fun e w' => Only b (o + 1) w w' ∧ ∃ k', Cur w' b o sa n cap k' ∧ k' ≤ n ∧ Out a (decF 0 false (l.drop k)) e k k' := by
  have hn := hs.2.1
  by_cases hkn : k = n
  · subst hkn
    have hd : l.drop k = [] := by rw [List.drop_eq_nil_iff]; rw [hs.1]; exact Nat.le_refl _
    rw [hd]
    go_enter Tryz.func177, Tryz.ntmps177
    go_wp2_with fail
    refine (next_end b o k cap _ a _ hc hn he).mono ?_
    rintro e w1 ⟨rfl, ho, hc1⟩
    exact ⟨rfl, ho, k, hc1, Nat.le_refl _, rfl⟩
  · have hlt : k < n := by omega
    have HD : Hid (l.drop k = l.getD k 0 :: l.drop (k + 1)) := drop_cons (by rw [hs.1]; exact hlt)
    by_cases z0 : l.getD k 0 = 0
    · have HR : Hid (decF 0 false (l.drop k) = .error 2) := by rw [HD.out]; exact decF_tenth0 _ _ _ z0
      go_enter Tryz.func177, Tryz.ntmps177
      go_wp2_with fail
      refine (next_ok b o n cap _ l k _ hc hs hlt).mono ?_
      rintro e w1 ⟨rfl, ho, hc1⟩
      rw [z0]
      have e2 := (he.only ho h5 hab).s2
      go_wp2
      refine ⟨rfl, ho, k + 1, hc1, by omega, ?_⟩
      rw [HR.out]; rfl
    · by_cases z1 : l.getD k 0 = 1
      · have HR : Hid (decF 0 false (l.drop k) = .ok (1, 1)) := by rw [HD.out]; exact decF_tenth1 _ _ _ z1
        go_enter Tryz.func177, Tryz.ntmps177
        go_wp2_with fail
        refine (next_ok b o n cap _ l k _ hc hs hlt).mono ?_
        rintro e w1 ⟨rfl, ho, hc1⟩
        rw [z1]
        go_wp2
        go_ret
        refine ⟨ho, k + 1, hc1, by omega, ?_⟩
        rw [HR.out]; exact ⟨rfl, rfl⟩
      · have HR : Hid (decF 0 false (l.drop k) = .error 1) := by rw [HD.out]; exact decF_tenth2 _ _ _ z0 z1
        have b0 : (l.getD k 0 == 0) = false := beq_eq_false_iff_ne.2 z0
        have b1 : (l.getD k 0 == 1) = false := beq_eq_false_iff_ne.2 z1
        go_enter Tryz.func177, Tryz.ntmps177
        go_wp2_with fail
        refine (next_ok b o n cap _ l k _ hc hs hlt).mono ?_
        rintro e w1 ⟨rfl, ho, hc1⟩
        clear z0 z1
        generalize l.getD k 0 = z at *
        have e2 := (he.only ho h5 hab).s1
        go_wp2
        refine ⟨rfl, ho, k + 1, hc1, by omega, ?_⟩
        rw [HR.out]; rfl

end Go.Proofs.YtlhididcanedhaaGreatDoor
/- The contracts of the cursor's number, of unfold and of signed. -/
namespace Go.Proofs.YtlhididcanedhaaGreatDoor
open Go.RowKit Go.Wire1

set_option maxHeartbeats 1000000 in
set_option maxRecDepth 100000 in
theorem number_any (b o n cap : Nat) (sa : Option Addr) (l : List Int) (k : Nat) (a : Nat → Addr) (w : World) (hc : Cur w b o sa n cap k) (hs : Seg w sa n l) (hsep : ∀ x, sa = some x → 0 < n → x.block ≠ b) (hy : Byt l) (hk : k ≤ n) (he : Errs w a) (h5 : 8 ≤ b) (hab : ∀ i, i < 5 → (a i).block ≠ b) :
    Calls Tryz.prog 166 #[.pointer (some ⟨b, o, none⟩)] w fun e w' => Only b (o + 1) w w' ∧ ∃ k', Cur w' b o sa n cap k' ∧ k' ≤ n ∧ Out a (dec (l.drop k)) e k k' := by
  have hn := hs.2.1
  go_enter Tryz.func166, Tryz.ntmps166
  go_wp2
  go_loopw [3, 6] (fun s c wr => ∃ (x i : Nat), s = .int .u64 (x : Int) ∧ c = .int .i64 (i : Int) ∧ i ≤ 9 ∧ Hid (x < 128 ^ i) ∧ k + i ≤ n ∧ Only b (o + 1) w wr ∧ Cur wr b o sa n cap (k + i) ∧ Hid (dec (l.drop k) = comb x i (decF (9 - i) (decide (i = 0)) (l.drop (k + i)))))
    (fun _ c _ => 9 - (intOf c).toNat)
  case atStart => exact ⟨0, 0, rfl, rfl, by omega, by simp [Hid], by omega, Only.refl _ _ _, hc, comb_zero _⟩
  case round =>
    obtain ⟨x, i, rfl, rfl, hi, HX, hki, ho, hcur, HR⟩ := hrel
    have hs' := ho.seg hs hsep
    have he' := he.only ho h5 hab
    by_cases h9 : i < 9
    · obtain ⟨f, hf⟩ : ∃ f, 9 - i = f + 1 := ⟨8 - i, by omega⟩
      rw [hf] at HR
      by_cases hkn : k + i = n
      · have HQ : Hid (dec (l.drop k) = .error 0) := by
          have h1 := HR.out
          have hd : l.drop (k + i) = [] := by rw [List.drop_eq_nil_iff, hs.1]; omega
          rw [hd, decF_nil] at h1; exact h1
        rw [hkn] at hcur
        go_wp2_with fail
        refine (next_end b o n cap _ a _ hcur hn he').mono ?_
        rintro e w1 ⟨rfl, ho1, hc1⟩
        go_wp2
        refine ⟨rfl, ho.trans ho1, n, hc1, Nat.le_refl _, ?_⟩
        rw [HQ.out]; rfl
      · have hz := byt_at hy (k + i)
        have HD : Hid (l.drop (k + i) = l.getD (k + i) 0 :: l.drop (k + i + 1)) := drop_cons (by rw [hs.1]; omega)
        go_wp2_with fail
        refine (next_ok b o n cap _ l (k + i) _ hcur hs' (by omega)).mono ?_
        rintro e w1 ⟨rfl, ho1, hc1⟩
        generalize l.getD (k + i) 0 = z at *
        have HO : Hid (Only b (o + 1) w w1) := ho.trans ho1
        have he1 := he'.only ho1 h5 hab
        by_cases hbig : 128 ≤ z
        · go_wp2
          refine ⟨⟨x + 128 ^ i * (z.toNat % 128), i + 1, by rw [or_step x i z HX.out h9 hz], by go_num, by omega, step_lt _ _ _ HX.out (Nat.mod_lt _ (by decide)), by omega, HO, hc1, ?_⟩, by simp [intOf]; omega⟩
          have h1 := HR.out
          rw [HD.out, decF_more _ _ _ _ _ _ hbig] at h1
          have e1 : 9 - (i + 1) = f := by omega
          have e2 : z.toNat % 128 = (z - 128).toNat := by omega
          have e3 : decide (i + 1 = 0) = false := by simp
          rw [e1, e2, e3]; exact h1
        · by_cases h0 : z = 0 ∧ 0 < i
          · obtain ⟨rfl, hi0⟩ := h0
            have HQ : Hid (dec (l.drop k) = .error 2) := by
              have h1 := HR.out
              have e3 : decide (i = 0) = false := by simp; omega
              rw [HD.out, e3, decF_form _ _ _ rfl] at h1; exact h1
            have e2 := he1.s2
            go_wp2
            refine ⟨rfl, HO, k + i + 1, hc1, by omega, ?_⟩
            rw [HQ.out]; rfl
          · have HQ : Hid (dec (l.drop k) = .ok (x + 128 ^ i * (z.toNat % 128), i + 1)) := by
              have h1 := HR.out
              have e2 : z.toNat % 128 = z.toNat := by omega
              rw [HD.out, decF_last _ _ _ _ (by omega) (by simp; omega)] at h1
              rw [e2]; exact h1
            have hdec : (z = 0 ∧ i = 0) ∨ ¬ z = 0 := by omega
            clear h0
            rcases hdec with ⟨rfl, rfl⟩ | hz0
            · go_wp2
              go_ret
              refine ⟨HO, k + 0 + 1, hc1, by omega, ?_⟩
              rw [HQ.out]
              exact ⟨ret_int (by rw [← or_step x 0 0 HX.out (by omega) hz]; rfl), by omega⟩
            · have hb0 : (z == 0) = false := beq_eq_false_iff_ne.2 hz0
              go_wp2
              go_ret
              refine ⟨HO, k + i + 1, hc1, by omega, ?_⟩
              rw [HQ.out]
              exact ⟨ret_int (or_step x i z HX.out h9 hz), by omega⟩
    · obtain rfl : i = 9 := by omega
      go_wp2_with fail
      refine (tenth_any b o n cap _ l (k + 9) a _ hcur hs' hki he' h5 hab).mono ?_
      rintro e w1 ⟨ho1, k', hc1, hk', hout⟩
      have h1 := HR.out
      have e1 : 9 - 9 = 0 := rfl
      have e3 : decide (9 = 0) = false := rfl
      rw [e1, e3] at h1
      have HO : Hid (Only b (o + 1) w w1) := ho.trans ho1
      cases hd : decF 0 false (l.drop (k + 9)) with
      | error j =>
        rw [hd] at hout h1
        have HQ : Hid (dec (l.drop k) = .error j) := h1
        obtain rfl : e = _ := hout
        clear h1 hd HR
        go_wp2
        refine ⟨rfl, HO, k', hc1, hk', ?_⟩
        rw [HQ.out]; rfl
      | ok p =>
        obtain ⟨y, m⟩ := p
        obtain rfl : y = 1 := decF_one hd
        rw [hd] at hout h1
        obtain ⟨rfl, HK⟩ := hout
        have HK : Hid (k' = k + 9 + m) := HK
        have HQ : Hid (dec (l.drop k) = .ok (x + 128 ^ 9 * 1, 9 + m)) := h1
        clear h1 hd HR
        go_wp2
        go_ret
        refine ⟨HO, k', hc1, hk', ?_⟩
        rw [HQ.out]
        exact ⟨ret_int (or_tenth x HX.out), by have := HK.out; omega⟩

set_option maxHeartbeats 400000 in
set_option maxRecDepth 100000 in
theorem unfold_any (u : Nat) (w : World) (hu : u < 18446744073709551616) :
    Calls Tryz.prog 192 #[.int .u64 (u : Int)] w fun e w' => e = .returned (.int .i64 (unzig u)) ∧ w' = w := by
  go_enter Tryz.func192, Tryz.ntmps192
  go_wp2
  go_ret
  exact ⟨ret_int (unzig_bits u hu), rfl⟩

/-- What a reading of a signed number comes to. -/
def OutI (a : Nat → Addr) (r : Except Nat (Nat × Nat)) (e : Ending) (k k' : Nat) : Prop :=
  match r with
  | .ok (x, m) => e = .returned (.int .i64 (unzig x)) ∧ k' = k + m
  | .error i => e = .panicked [{ v := errV (a i), recovered := false }]

set_option maxHeartbeats 400000 in
set_option maxRecDepth 100000 in
theorem signed_any (b o n cap : Nat) (sa : Option Addr) (l : List Int) (k : Nat) (a : Nat → Addr) (w : World) (hc : Cur w b o sa n cap k) (hs : Seg w sa n l) (hsep : ∀ x, sa = some x → 0 < n → x.block ≠ b) (hy : Byt l) (hk : k ≤ n) (he : Errs w a) (h5 : 8 ≤ b) (hab : ∀ i, i < 5 → (a i).block ≠ b) :
    Calls Tryz.prog 186 #[.pointer (some ⟨b, o, none⟩)] w fun e w' => Only b (o + 1) w w' ∧ ∃ k', Cur w' b o sa n cap k' ∧ k' ≤ n ∧ OutI a (dec (l.drop k)) e k k' := by
  go_enter Tryz.func186, Tryz.ntmps186
  go_wp2_with fail
  refine (number_any b o n cap sa l k a _ hc hs hsep hy hk he h5 hab).mono ?_
  rintro e w1 ⟨ho, k', hc1, hk', hout⟩
  cases hd : dec (l.drop k) with
  | error i =>
    rw [hd] at hout
    obtain rfl : e = _ := hout
    have HD : Hid (dec (l.drop k) = .error i) := hd
    clear hd
    go_wp2
    refine ⟨rfl, ho, k', hc1, hk', ?_⟩
    rw [HD.out]; rfl
  | ok p =>
    obtain ⟨x, m⟩ := p
    have hx := dec_lt (fun z hz => hy z (List.mem_of_mem_drop hz)) hd
    rw [hd] at hout
    obtain ⟨rfl, HK⟩ := hout
    have HK : Hid (k' = k + m) := HK
    have HD : Hid (dec (l.drop k) = .ok (x, m)) := hd
    clear hd
    go_wp2_with fail
    refine (unfold_any x _ hx).mono ?_
    rintro e w2 ⟨rfl, rfl⟩
    go_wp2
    go_ret
    refine ⟨ho, k', hc1, hk', ?_⟩
    rw [HD.out]; exact ⟨rfl, HK.out⟩

end Go.Proofs.YtlhididcanedhaaGreatDoor
