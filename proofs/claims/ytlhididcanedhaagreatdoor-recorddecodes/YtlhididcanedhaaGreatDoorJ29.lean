/- Texts of the proof, joined. -/
import Derived.Test.YtlhididcanedhaaGreatDoorJ01
import Derived.Test.YtlhididcanedhaaGreatDoorJ26
import Derived.Test.YtlhididcanedhaaGreatDoorJ28
/- What a record's reading gives, as mathematics; the contract of the reader's record. -/
namespace Go.Proofs.YtlhididcanedhaaGreatDoor
open Go.RowKit Go.Wire1

/-- The fields of a row, read one behind the other; each is judged where it ends. -/
def rdGo (k : Nat) : List Nat → Rc → List Int → Rc × Int
  | [], r, l => (r, ((unlR (l.length == 0) 68 : Nat) : Int))
  | x :: xs, r, l => if rdE k r l x = 0 then (if faultR (k : Int) (rdR k r l x) x = 0 then rdGo k xs (rdR k r l x) (rdL k r l x) else (rdR k r l x, ((faultR (k : Int) (rdR k r l x) x : Nat) : Int))) else (rdR k r l x, rdE k r l x)
def zeroRc : Rc := ⟨0, 0, 0, 0, 0, false, zeroC, 0, none, 0, 0, [], 0, 0⟩
def rdRec (k : Nat) (l : List Int) : Rc × Int := match l with
  | [] => (zeroRc, 11)
  | x :: t => if isKindR x then rdGo k (rowR x) { zeroRc with kind := x } t else (zeroRc, 61)
/-- A record but for where its Deps lie. -/
def er (r : Rc) : Rc := r.lay none 0 0
def rdEq (p q : Rc × Int) : Prop := er p.1 = er q.1 ∧ p.2 = q.2
theorem rdE_lay (k : Nat) (r : Rc) (l : List Int) (x : Nat) (a : Option Addr) (d c : Nat) : rdE k (r.lay a d c) l x = rdE k r l x := rfl
theorem rdL_lay (k : Nat) (r : Rc) (l : List Int) (x : Nat) (a : Option Addr) (d c : Nat) : rdL k (r.lay a d c) l x = rdL k r l x := rfl
theorem faultR_lay (n : Int) (r : Rc) (x : Nat) (a : Option Addr) (d c : Nat) : faultR n (r.lay a d c) x = faultR n r x := rfl
theorem rdR_lay (k : Nat) (r : Rc) (l : List Int) (x : Nat) (a : Option Addr) (d c : Nat) : rdR k (r.lay a d c) l x = (rdR k r l x).lay a d c := by
  unfold rdR
  split
  all_goals first | rfl | (rw [show noopR (r.lay a d c) = noopR r from rfl]; split <;> rfl)
theorem rdGo_lay (k : Nat) : ∀ (xs : List Nat) (r : Rc) (l : List Int) (a : Option Addr) (d c : Nat), rdEq (rdGo k xs (r.lay a d c) l) (rdGo k xs r l)
  | [], r, l, a, d, c => ⟨rfl, rfl⟩
  | x :: xs, r, l, a, d, c => by
    show rdEq (if rdE k (r.lay a d c) l x = 0 then _ else _) (if rdE k r l x = 0 then _ else _)
    rw [rdE_lay, rdR_lay, rdL_lay, faultR_lay]
    by_cases h1 : rdE k r l x = 0
    · rw [if_pos h1, if_pos h1]
      by_cases h2 : faultR (k : Int) (rdR k r l x) x = 0
      · rw [if_pos h2, if_pos h2]; exact rdGo_lay k xs _ _ a d c
      · rw [if_neg h2, if_neg h2]; exact ⟨rfl, rfl⟩
    · rw [if_neg h1, if_neg h1]; exact ⟨rfl, rfl⟩
theorem rdEq.trans {p q s : Rc × Int} (h : rdEq p q) (k : rdEq q s) : rdEq p s := ⟨h.1.trans k.1, h.2.trans k.2⟩
theorem rdEq.symm {p q : Rc × Int} (h : rdEq p q) : rdEq q p := ⟨h.1.symm, h.2.symm⟩
theorem rdGo_next {k : Nat} {xs : List Nat} {p : Nat} {r : Rc} {l : List Int} (hp : p < xs.length) (h1 : rdE k r l (xs.getD p 0) = 0) (h2 : faultR (k : Int) (rdR k r l (xs.getD p 0)) (xs.getD p 0) = 0) (a : Option Addr) (d c : Nat) :
    rdEq (rdGo k (xs.drop p) r l) (rdGo k (xs.drop (p + 1)) ((rdR k r l (xs.getD p 0)).lay a d c) (rdL k r l (xs.getD p 0))) := by
  refine rdEq.trans ?_ (rdGo_lay k _ _ _ a d c).symm
  rw [List.getD, List.getElem?_eq_getElem hp, Option.getD_some] at h1 h2 ⊢
  rw [List.drop_eq_getElem_cons hp]
  show rdEq (if rdE k r l xs[p] = 0 then _ else _) _
  rw [if_pos h1, if_pos h2]
  exact ⟨rfl, rfl⟩
theorem rdGo_bad {k : Nat} {xs : List Nat} {p : Nat} {r : Rc} {l : List Int} (hp : p < xs.length) (h1 : rdE k r l (xs.getD p 0) ≠ 0) : rdGo k (xs.drop p) r l = (rdR k r l (xs.getD p 0), rdE k r l (xs.getD p 0)) := by
  rw [List.getD, List.getElem?_eq_getElem hp, Option.getD_some] at h1 ⊢
  rw [List.drop_eq_getElem_cons hp]
  show (if rdE k r l xs[p] = 0 then _ else _) = _
  rw [if_neg h1]
theorem rdGo_fault {k : Nat} {xs : List Nat} {p : Nat} {r : Rc} {l : List Int} (hp : p < xs.length) (h1 : rdE k r l (xs.getD p 0) = 0) (h2 : faultR (k : Int) (rdR k r l (xs.getD p 0)) (xs.getD p 0) ≠ 0) : rdGo k (xs.drop p) r l = (rdR k r l (xs.getD p 0), ((faultR (k : Int) (rdR k r l (xs.getD p 0)) (xs.getD p 0) : Nat) : Int)) := by
  rw [List.getD, List.getElem?_eq_getElem hp, Option.getD_some] at h1 h2 ⊢
  rw [List.drop_eq_getElem_cons hp]
  show (if rdE k r l xs[p] = 0 then _ else _) = _
  rw [if_pos h1, if_neg h2]
/-- Its keys are short. -/
def Kys (r : Rc) : Prop := r.c.key.size ≤ 140737488351232 ∧ r.c.key2.size ≤ 140737488351232
theorem dec_keys {l : List Int} (hy : Byt l) : (decC 2 l).1.key.size ≤ 140737488351232 ∧ (decC 2 l).1.key2.size ≤ 140737488351232 := by
  by_cases h : (decC 2 l).2.2 = 0
  · obtain ⟨_, h2, _⟩ := decC_one hy h
    have hs := sound_of h2
    have hc := chk_zero h2
    generalize (decC 2 l).1 = c at *
    have key : ∀ f, f < 6 → faultF 2 c f = 0 → (hasF c.kind f = true → allowF 2 c f = true) ∧ (hasF c.kind f = false → zeroF c f = true) := fun f hf h0 => by
      unfold faultF at h0
      cases hh : hasF c.kind f with
      | true => exact ⟨fun _ => has_allow (hc.2.2 f (by omega)) hf hh, fun q => by cases q⟩
      | false =>
        rw [hh] at h0
        refine ⟨fun q => (by cases q), fun _ => ?_⟩
        cases hz : zeroF c f with
        | true => rfl
        | false => rw [hz] at h0; simp at h0
    have emp : ∀ s : ByteArray, s.toList.isEmpty = true → s.size ≤ 140737488351232 := fun s hs => by
      have : s.toList.length = 0 := by simpa using hs
      rw [ByteArray.toList_eq] at this
      have e : s.data.size = 0 := by simpa using this
      show s.data.size ≤ _
      omega
    have k2 := key 2 (by omega) (hc.2.2 2 (by omega))
    have k3 := key 3 (by omega) (hc.2.2 3 (by omega))
    constructor
    · cases hh : hasF c.kind 2 with
      | true => have := k2.1 hh; simp only [allowF, isKeyB, Bool.and_eq_true, decide_eq_true_eq] at this; omega
      | false => exact emp _ (k2.2 hh)
    · cases hh : hasF c.kind 3 with
      | true => have := k3.1 hh; simp only [allowF, isKeyB, Bool.and_eq_true, decide_eq_true_eq] at this; omega
      | false => exact emp _ (k3.2 hh)
  · have e : (decC 2 l).1 = zeroC := by
      unfold decC at h ⊢
      rw [if_pos (by decide)] at h ⊢
      by_cases h1 : (sCmd 2 (l.take 131281) ⟨0, 0, 0⟩).2.ft = 0
      · rw [if_pos h1] at h; exact absurd rfl h
      · rw [if_neg h1]
    rw [e]
    exact ⟨by show (0 : Nat) ≤ _; omega, by show (0 : Nat) ≤ _; omega⟩
theorem kys_rd {k : Nat} {r : Rc} {l : List Int} (hy : Byt l) (h : Kys r) {x : Nat} (hx : Ltr x) (a : Option Addr) (d c : Nat) : Kys ((rdR k r l x).lay a d c) := by
  rcases hx with rfl | rfl | rfl | rfl | rfl | rfl | rfl | rfl
  · exact h
  · exact h
  · exact h
  · exact h
  · exact h
  · exact dec_keys hy
  · show Kys ((if noopR r then r else { r with seq := t31 (rWh l).1 } : Rc).lay a d c)
    split <;> exact h
  · exact h

/-- In the midst of record's loop. -/
structure Lr (w0 w wr : World) (g it k : Nat) (S : ByteArray) (p : Nat) (l : List Int) (r : Rc) : Prop where
  rd : Rsx w0 wr g k l r
  iter : wr.heap[it]? = some (.stringIter S p)
  tch : Touch g w wr
  kys : Kys r
section
variable {w0 w wr w' : World} {g it k : Nat} {S : ByteArray} {p : Nat} {l : List Int} {r : Rc}
theorem Lr.lt (h : Lr w0 w wr g it k S p l r) : it < wr.heap.size := (Array.getElem?_eq_some_iff.1 h.iter).1
theorem cell_iter {W : World} {b o : Nat} {v : Value} {q : Nat} {s : ByteArray} (hc : W.cell? ⟨b, o, none⟩ = some v) (hi : W.heap[it]? = some (.stringIter s q)) : b ≠ it := by
  intro e
  subst e
  simp [World.cell?, hi] at hc
theorem Lr.ne (h : Lr w0 w wr g it k S p l r) : g ≠ it := by
  obtain ⟨sa, m, cap, hr⟩ := h.rd
  exact cell_iter hr.c0 h.iter
theorem Lr.on (h : Lr w0 w wr g it k S p l r) (hb : Below wr.heap.size wr w') : Lr w0 w w' g it k S p l r := ⟨h.rd.on hb, (hb.block it h.lt).trans h.iter, h.tch.trans (Touch.ofBelow hb), h.kys⟩
theorem Lr.put (h : Lr w0 w wr g it k S p l r) {l' : List Int} {r' : Rc} (T : Touch g wr w') (hr : Rsx w0 w' g k l' r') (hk : Kys r') : Lr w0 w w' g it k S p l' r' := ⟨hr, (T.block it h.lt (Ne.symm h.ne)).trans h.iter, h.tch.trans T, hk⟩
theorem Lr.next (h : Lr w0 w wr g it k S p l r) (h0 : w0.heap.size ≤ it) (h1 : w.heap.size ≤ it) (p' : Nat) : Lr w0 w (wr.iterAt it S p') g it k S p' l r := by
  obtain ⟨sa, m, cap, hr⟩ := h.rd
  have hne := h.ne
  have hcell : ∀ b o v, wr.cell? ⟨b, o, none⟩ = some v → (wr.iterAt it S p').cell? ⟨b, o, none⟩ = some v := fun b o v hc => by
    rw [World.cell?_of_block (w := wr) (a := ⟨b, o, none⟩) (Lib.iterAt_other _ _ _ _ _ (cell_iter hc h.iter))]; exact hc
  refine ⟨⟨sa, m, cap, ⟨hr.box.iterAt hne, Lib.below_iterAt hr.low h0 _ _, hr.hg, hr.seg, hr.src, hr.byt, ?_, hr.far⟩⟩, Lib.iterAt_heap _ _ _ _ _ h.iter, ?_, h.kys⟩
  · obtain ⟨s1, s2, s3, s4⟩ := hr.dep
    refine ⟨s1, s2, fun hn => ?_, s4⟩
    obtain ⟨b, off, e, hc⟩ := s3 hn
    exact ⟨b, off, e, fun j hj => hcell _ _ _ (hc j hj)⟩
  · have T := h.tch
    exact ⟨T.os, T.tape, T.output, by rw [Lib.iterAt_size]; exact T.size, fun i hi hb => (Lib.iterAt_other _ _ _ _ _ (by omega)).trans (T.block i hi hb)⟩
theorem Lr.pos (h : Lr w0 w wr g it k S p l r) : wr.iterPos it = p := by unfold World.iterPos; rw [h.iter]
end

section
variable (w0 : World) (g k : Nat)
theorem Knd.drewN {w : World} (h : Knd w) (n : Nat) : Knd (w.drewN n) := h
set_option maxHeartbeats 8000000 in
set_option maxRecDepth 100000 in
theorem rrecord_any (l : List Int) (a : Nat → Addr) (w : World) (he : Errs w0 a) (hK : Knd w0) (hR : Rws w0) (h : Rsx w0 w g k l zeroRc) (h1 : 1 ≤ k) (h7 : k ≤ 7) :
    Calls Tryz.prog 25 #[.pointer (some ⟨g, 0, none⟩)] w fun e w' => ∃ rr l', e = .returned (.int .i64 (rdRec k l).2) ∧ Touch g w w' ∧ Rsx w0 w' g k l' rr ∧ er rr = er (rdRec k l).1 := by
  have HX := hide h
  have HE := hide he
  have HK := hide hK
  have HW := hide hR
  clear h he hK hR
  cases l with
  | nil =>
    have E : Hid (rdRec k [] = (zeroRc, 11)) := rfl
    rw [E.out]
    go_enter Tryz.func25, Tryz.ntmps25
    go_wp2_with fail
    refine (roctet_any w0 g k zeroRc [] _ HX.out).mono ?_
    rintro e w1 ⟨rfl, T1, S1⟩
    have F := hide (And.intro T1 S1)
    clear T1 S1
    rw [show rOct [] = (0, [], 11) from rfl]
    go_wp2
    go_ret
    exact ⟨zeroRc, [], rfl, F.out.1, F.out.2, rfl⟩
  | cons y t =>
    cases hk : isKindR y with
    | false =>
      have E : Hid (rdRec k (y :: t) = (zeroRc, 61)) := by show (if isKindR y then _ else _) = _; rw [hk]; rfl
      rw [E.out]
      go_enter Tryz.func25, Tryz.ntmps25
      go_wp2_with fail
      refine (roctet_any w0 g k zeroRc (y :: t) _ HX.out).mono ?_
      rintro e w1 ⟨rfl, T1, S1⟩
      have F := hide (And.intro T1 S1)
      clear T1 S1
      rw [show rOct (y :: t) = (y, t, 0) from rfl]
      go_wp2_with fail
      refine (risKind_any y _).mono ?_
      rintro e w2 ⟨rfl, rfl⟩
      rw [hk]
      clear hk
      go_wp2
      go_ret
      exact ⟨zeroRc, t, rfl, F.out.1, F.out.2, rfl⟩
    | true =>
      obtain ⟨l, hl⟩ : ∃ l, Hid (y :: t = l) := ⟨_, rfl⟩
      obtain ⟨j, hjj, hj6⟩ := kindR_nat hk
      obtain ⟨xs, hxs⟩ : ∃ xs, Hid (rowL.getD j [] = xs) := ⟨_, rfl⟩
      obtain ⟨S, hS⟩ : ∃ S, Hid (rowS.getD j ⟨#[]⟩ = S) := ⟨_, rfl⟩
      have HL : Hid (Lts S xs) := by rw [← hxs.out, ← hS.out]; exact lts_row hj6
      have E : Hid (rdRec k (y :: t) = rdGo k xs { zeroRc with kind := y } t) := by
        show (if isKindR y then rdGo k (rowR y) { zeroRc with kind := y } t else _) = _
        rw [hk, if_pos rfl, ← hxs.out]
        unfold rowR
        rw [hjj]; rfl
      have HZ : Hid (rdEq (rdRec k l) (rdGo k xs { zeroRc with kind := y } t)) := by show rdEq _ _; rw [← hl.out, E.out]; exact ⟨rfl, rfl⟩
      have HHK := hide hk
      rw [hl.out]
      subst hjj
      clear hk
      go_enter Tryz.func25, Tryz.ntmps25
      go_wp2_with fail
      refine (roctet_any w0 g k zeroRc l _ (by rw [← hl.out]; exact HX.out)).mono ?_
      rintro e w1 ⟨rfl, T1, S1⟩
      rw [← hl.out, show rOct ((j : Int) :: t) = ((j : Int), t, 0) from rfl] at S1 ⊢
      obtain ⟨sa, m, cap, S1⟩ := S1
      have c2 : w1.cell? ⟨g, 2, none⟩ = some (.int .i64 0) := S1.cell (rcs0 zeroRc)
      have t2 := S1.box.thaw 2
      have PP := S1.put 0 (.int .i64 (j : Int)) { zeroRc with kind := (j : Int) } rfl rfl rfl rfl
      obtain ⟨X, hX⟩ : ∃ X, X = w1.setCell ⟨g, 2, none⟩ (.int .i64 (j : Int)) := ⟨_, rfl⟩
      have SX : Hid (Rsx w0 X g k t { zeroRc with kind := (j : Int) }) := by rw [hX]; exact ⟨_, _, _, PP.1⟩
      have TX : Hid (Touch g w X) := by rw [hX]; exact T1.trans PP.2
      have BX : Hid (Below w0.heap.size w0 X) := SX.out.low
      obtain ⟨it, hit⟩ : ∃ it, Hid (X.heap.size = it) := ⟨_, rfl⟩
      have i0 : Hid (w0.heap.size ≤ it) := by rw [← hit.out]; exact BX.out.size
      have i1 : Hid (w.heap.size ≤ it) := by rw [← hit.out]; exact TX.out.size
      have L0 : Hid (Lr w0 w (X.iter S 0) g it k S 0 t { zeroRc with kind := (j : Int) }) := by
        rw [← hit.out]
        exact ⟨SX.out.on ((Below.refl _ _).alloc (Nat.le_refl _) _), World.iter_heap _ _ _, TX.out.trans (Touch.ofBelow ((Below.refl _ _).alloc (Nat.le_refl _) _)), ⟨by show (0 : Nat) ≤ _; omega, by show (0 : Nat) ≤ _; omega⟩⟩
      have qr : X.cell? ⟨0, j, none⟩ = some (.string S) := by rw [← hS.out]; exact HW.out.below BX.out (Nat.le_refl _) j hj6
      clear T1 S1 PP
      go_wp2_with fail
      refine (risKind_any (j : Int) _).mono ?_
      rintro e w2 ⟨rfl, rfl⟩
      rw [HHK.out]
      go_upto_region 7 with fail
      rw [← hX]
      clear hX c2 t2
      go_wp2
      rw [hit.out]
      clear qr
      go_loopw [6, 7, 8] (fun _ _ _ wr => ∃ (p : Nat) (rr : Rc) (lp : List Int), p ≤ xs.length ∧ Hid (Lr w0 w wr g it k S p lp rr) ∧ Hid (rdEq (rdGo k xs { zeroRc with kind := (j : Int) } t) (rdGo k (xs.drop p) rr lp))) (fun _ _ _ wr => xs.length - wr.iterPos it)
      case atStart => exact ⟨0, _, _, Nat.zero_le _, L0, ⟨rfl, rfl⟩⟩
      case round =>
        obtain ⟨p, rr, lp, hp, HP, HA⟩ := hrel
        by_cases hlt : p < xs.length
        · have hnx := fun ty => lts_next (P := Tryz.prog) HL.out HP.out.iter hlt ty
          have HP1 : Hid (Lr w0 w (wr.iterAt it S (p + 1)) g it k S (p + 1) lp rr) := HP.out.next i0.out i1.out (p + 1)
          have hx : Hid (Ltr (xs.getD p 0)) := HL.out.ltr hlt
          have hpos := hide HP.out.pos
          obtain ⟨x, hxx⟩ : ∃ x, Hid (xs.getD p 0 = x) := ⟨_, rfl⟩
          rw [hxx.out] at hnx hx
          clear HP
          generalize wr.iterAt it S (p + 1) = w4 at *
          have hx' := hx.out
          clear hx
          rcases hx' with rfl | rfl | rfl | rfl | rfl | rfl | rfl | rfl
          · have hf1 := field_1
            have hltr : Hid (Ltr 119) := by show Ltr 119; unfold Ltr; omega
            go_wp2_with fail
            refine (fieldOf_id _).mono ?_
            rintro e w5 ⟨rfl, hb5⟩
            have L5 := hide (HP1.out.on hb5)
            clear hb5
            go_wp2_with fail
            have X5 := L5.out.rd
            refine (rdid_any w0 g k rr lp a _ HE.out X5).mono ?_
            rintro e w6 ⟨aa, dd, cc, rfl, T6, X6⟩
            have KY : Kys ((rdR k rr lp 119).lay aa dd cc) := kys_rd X5.byt L5.out.kys hltr.out aa dd cc
            have L6 := hide (L5.out.put T6 X6 KY)
            clear X5 X6 T6 KY
            obtain ⟨ee, hee⟩ : ∃ ee, Hid (rdE k rr lp 119 = ee) := ⟨_, rfl⟩
            rw [hee.out]
            by_cases h0 : ee = 0
            · subst h0
              obtain ⟨l6, hl6⟩ : ∃ l6, Hid (rdL k rr lp 119 = l6) := ⟨_, rfl⟩
              obtain ⟨r6, hr6⟩ : ∃ r6, Hid ((rdR k rr lp 119).lay aa dd cc = r6) := ⟨_, rfl⟩
              rw [hl6.out, hr6.out] at L6
              obtain ⟨F, hF⟩ : ∃ F, Hid (faultR (k : Int) r6 119 = F) := ⟨_, rfl⟩
              have hF2 : Hid (faultR (k : Int) (rdR k rr lp 119) 119 = F) := by show _ = _; rw [← hF.out, ← hr6.out]; rfl
              obtain ⟨sa6, m6, cap6, hb6⟩ := L6.out.rd
              have c0 := hb6.c0
              have hrg := hb6.range
              have RK : Hid (Rok w6 r6) := ⟨hb6.dep, L6.out.kys.1, L6.out.kys.2⟩
              have KN : Hid (Knd w6) := HK.out.below hb6.low (Nat.le_refl _)
              have L6d : Hid (Lr w0 w w6.drew g it k S (p + 1) l6 r6) := ⟨L6.out.rd.drew, L6.out.iter, L6.out.tch.drew, L6.out.kys⟩
              clear hb6
              go_wp2
              refine wp_region_noPanic ?_
              refine wp_region_held_drew (S := (fun w' => w'.cell? ⟨g, 0, none⟩ = some (.int .i64 (k : Int)) ∧ w'.rangeAt g 2 (rcs r6))) (by kernel_rfl) ⟨c0, hrg⟩ (fun hHeld => ?_)
              refine tk 0 ?_
              refine tk 1 ?_
              refine tk 2 ?_
              refine tk 3 ?_
              refine tk 4 ?_
              refine tk 5 ?_
              refine tk 6 ?_
              refine tq 7 rfl (yieldsIf_load_mid (by rfl) 30 _ rfl g 2 rfl (rcs r6) _ (fun _ h => h.2) Tryz.underlying30 rfl (by kernel_rfl)) ?_
              refine tk 8 ?_
              refine wpAnyH_ready (rs := [9]) (by kernel_rfl) (by simp) ?_
              refine AllReadyH.cons rfl (fun K hK => ?_) AllReadyH.nil
              rw [if_pos (by rfl)]
              go_wp2_with fail
              refine (rfaultOf_any k r6 119 _ hltr.out h1 h7 (RK.out.drewN 1) (KN.out.drewN 1)).mono ?_
              rintro e w7 ⟨rfl, hb7⟩
              rw [hF.out]
              have L7 : Hid (Lr w0 w w7 g it k S (p + 1) l6 r6) := L6d.out.on hb7
              obtain ⟨sb, mb, cb, hb8⟩ := L7.out.rd
              refine hK.out _ _ ⟨hb8.c0, hb8.range⟩ (fun hHeld => ?_)
              clear hK K
              try simp only [Act.put, List.getElem_toArray, List.getElem_cons_succ, List.getElem_cons_zero, List.setIfInBounds_toArray, List.set_cons_zero, List.set_cons_succ]
              refine tk 10 ?_
              refine wpAnyH_done (by kernel_rfl) ?_ _
              refine NoPanic.normal ?_
              clear hb7 hb8 hHeld
              by_cases hz : F = 0
              · subst hz
                have HN := hide (HA.out.trans (rdGo_next (xs := xs) (p := p) (r := rr) (l := lp) hlt (by rw [hxx.out]; exact hee.out) (by rw [hxx.out]; exact hF2.out) aa dd cc))
                rw [hxx.out, hl6.out, hr6.out] at HN
                go_wp2
                go_roundw
                case rel => exact ⟨p + 1, r6, l6, by omega, L7, HN⟩
                case measure => have q1 := hpos.out; have q2 := L7.out.pos; rw [q1, q2]; omega
              · have fn : ((F : Int) != 0) = true := by rw [bne_iff_ne]; omega
                have HN : Hid (rdEq (rdRec k l) (r6, (F : Int))) := by
                  have e2 := rdGo_fault (xs := xs) (p := p) (r := rr) (l := lp) hlt (by rw [hxx.out]; exact hee.out) (by rw [hxx.out, hF2.out]; exact hz)
                  rw [hxx.out, hF2.out] at e2
                  refine HZ.out.trans (HA.out.trans ?_)
                  rw [e2, ← hr6.out]
                  exact ⟨rfl, rfl⟩
                clear hz
                go_wp2
                go_ret
                exact ⟨r6, l6, by rw [HN.out.2]; rfl, L7.out.tch, L7.out.rd, HN.out.1.symm⟩
            · have hne : (ee != 0) = true := by simpa using h0
              have HN : Hid (rdEq (rdRec k l) ((rdR k rr lp 119).lay aa dd cc, ee)) := by
                have e2 := rdGo_bad (xs := xs) (p := p) (r := rr) (l := lp) hlt (by rw [hxx.out, hee.out]; exact h0)
                rw [hxx.out, hee.out] at e2
                refine HZ.out.trans (HA.out.trans ?_)
                rw [e2]
                exact ⟨rfl, rfl⟩
              clear h0
              go_wp2
              go_ret
              exact ⟨_, _, by rw [HN.out.2]; rfl, L6.out.tch, L6.out.rd, HN.out.1.symm⟩
          · have hf1 := field_1
            have hltr : Hid (Ltr 110) := by show Ltr 110; unfold Ltr; omega
            go_wp2_with fail
            refine (fieldOf_n _).mono ?_
            rintro e w5 ⟨rfl, hb5⟩
            have L5 := hide (HP1.out.on hb5)
            clear hb5
            go_wp2_with fail
            have X5 := L5.out.rd
            refine (rdsize_any w0 g k rr lp a _ HE.out X5).mono ?_
            rintro e w6 ⟨aa, dd, cc, rfl, T6, X6⟩
            have KY : Kys ((rdR k rr lp 110).lay aa dd cc) := kys_rd X5.byt L5.out.kys hltr.out aa dd cc
            have L6 := hide (L5.out.put T6 X6 KY)
            clear X5 X6 T6 KY
            obtain ⟨ee, hee⟩ : ∃ ee, Hid (rdE k rr lp 110 = ee) := ⟨_, rfl⟩
            rw [hee.out]
            by_cases h0 : ee = 0
            · subst h0
              obtain ⟨l6, hl6⟩ : ∃ l6, Hid (rdL k rr lp 110 = l6) := ⟨_, rfl⟩
              obtain ⟨r6, hr6⟩ : ∃ r6, Hid ((rdR k rr lp 110).lay aa dd cc = r6) := ⟨_, rfl⟩
              rw [hl6.out, hr6.out] at L6
              obtain ⟨F, hF⟩ : ∃ F, Hid (faultR (k : Int) r6 110 = F) := ⟨_, rfl⟩
              have hF2 : Hid (faultR (k : Int) (rdR k rr lp 110) 110 = F) := by show _ = _; rw [← hF.out, ← hr6.out]; rfl
              obtain ⟨sa6, m6, cap6, hb6⟩ := L6.out.rd
              have c0 := hb6.c0
              have hrg := hb6.range
              have RK : Hid (Rok w6 r6) := ⟨hb6.dep, L6.out.kys.1, L6.out.kys.2⟩
              have KN : Hid (Knd w6) := HK.out.below hb6.low (Nat.le_refl _)
              have L6d : Hid (Lr w0 w w6.drew g it k S (p + 1) l6 r6) := ⟨L6.out.rd.drew, L6.out.iter, L6.out.tch.drew, L6.out.kys⟩
              clear hb6
              go_wp2
              refine wp_region_noPanic ?_
              refine wp_region_held_drew (S := (fun w' => w'.cell? ⟨g, 0, none⟩ = some (.int .i64 (k : Int)) ∧ w'.rangeAt g 2 (rcs r6))) (by kernel_rfl) ⟨c0, hrg⟩ (fun hHeld => ?_)
              refine tk 0 ?_
              refine tk 1 ?_
              refine tk 2 ?_
              refine tk 3 ?_
              refine tk 4 ?_
              refine tk 5 ?_
              refine tk 6 ?_
              refine tq 7 rfl (yieldsIf_load_mid (by rfl) 30 _ rfl g 2 rfl (rcs r6) _ (fun _ h => h.2) Tryz.underlying30 rfl (by kernel_rfl)) ?_
              refine tk 8 ?_
              refine wpAnyH_ready (rs := [9]) (by kernel_rfl) (by simp) ?_
              refine AllReadyH.cons rfl (fun K hK => ?_) AllReadyH.nil
              rw [if_pos (by rfl)]
              go_wp2_with fail
              refine (rfaultOf_any k r6 110 _ hltr.out h1 h7 (RK.out.drewN 1) (KN.out.drewN 1)).mono ?_
              rintro e w7 ⟨rfl, hb7⟩
              rw [hF.out]
              have L7 : Hid (Lr w0 w w7 g it k S (p + 1) l6 r6) := L6d.out.on hb7
              obtain ⟨sb, mb, cb, hb8⟩ := L7.out.rd
              refine hK.out _ _ ⟨hb8.c0, hb8.range⟩ (fun hHeld => ?_)
              clear hK K
              try simp only [Act.put, List.getElem_toArray, List.getElem_cons_succ, List.getElem_cons_zero, List.setIfInBounds_toArray, List.set_cons_zero, List.set_cons_succ]
              refine tk 10 ?_
              refine wpAnyH_done (by kernel_rfl) ?_ _
              refine NoPanic.normal ?_
              clear hb7 hb8 hHeld
              by_cases hz : F = 0
              · subst hz
                have HN := hide (HA.out.trans (rdGo_next (xs := xs) (p := p) (r := rr) (l := lp) hlt (by rw [hxx.out]; exact hee.out) (by rw [hxx.out]; exact hF2.out) aa dd cc))
                rw [hxx.out, hl6.out, hr6.out] at HN
                go_wp2
                go_roundw
                case rel => exact ⟨p + 1, r6, l6, by omega, L7, HN⟩
                case measure => have q1 := hpos.out; have q2 := L7.out.pos; rw [q1, q2]; omega
              · have fn : ((F : Int) != 0) = true := by rw [bne_iff_ne]; omega
                have HN : Hid (rdEq (rdRec k l) (r6, (F : Int))) := by
                  have e2 := rdGo_fault (xs := xs) (p := p) (r := rr) (l := lp) hlt (by rw [hxx.out]; exact hee.out) (by rw [hxx.out, hF2.out]; exact hz)
                  rw [hxx.out, hF2.out] at e2
                  refine HZ.out.trans (HA.out.trans ?_)
                  rw [e2, ← hr6.out]
                  exact ⟨rfl, rfl⟩
                clear hz
                go_wp2
                go_ret
                exact ⟨r6, l6, by rw [HN.out.2]; rfl, L7.out.tch, L7.out.rd, HN.out.1.symm⟩
            · have hne : (ee != 0) = true := by simpa using h0
              have HN : Hid (rdEq (rdRec k l) ((rdR k rr lp 110).lay aa dd cc, ee)) := by
                have e2 := rdGo_bad (xs := xs) (p := p) (r := rr) (l := lp) hlt (by rw [hxx.out, hee.out]; exact h0)
                rw [hxx.out, hee.out] at e2
                refine HZ.out.trans (HA.out.trans ?_)
                rw [e2]
                exact ⟨rfl, rfl⟩
              clear h0
              go_wp2
              go_ret
              exact ⟨_, _, by rw [HN.out.2]; rfl, L6.out.tch, L6.out.rd, HN.out.1.symm⟩
          · have hf1 := field_1
            have hltr : Hid (Ltr 105) := by show Ltr 105; unfold Ltr; omega
            go_wp2_with fail
            refine (fieldOf_inst _).mono ?_
            rintro e w5 ⟨rfl, hb5⟩
            have L5 := hide (HP1.out.on hb5)
            clear hb5
            go_wp2_with fail
            have X5 := L5.out.rd
            refine (rdinst_any w0 g k rr lp a _ HE.out X5).mono ?_
            rintro e w6 ⟨aa, dd, cc, rfl, T6, X6⟩
            have KY : Kys ((rdR k rr lp 105).lay aa dd cc) := kys_rd X5.byt L5.out.kys hltr.out aa dd cc
            have L6 := hide (L5.out.put T6 X6 KY)
            clear X5 X6 T6 KY
            obtain ⟨ee, hee⟩ : ∃ ee, Hid (rdE k rr lp 105 = ee) := ⟨_, rfl⟩
            rw [hee.out]
            by_cases h0 : ee = 0
            · subst h0
              obtain ⟨l6, hl6⟩ : ∃ l6, Hid (rdL k rr lp 105 = l6) := ⟨_, rfl⟩
              obtain ⟨r6, hr6⟩ : ∃ r6, Hid ((rdR k rr lp 105).lay aa dd cc = r6) := ⟨_, rfl⟩
              rw [hl6.out, hr6.out] at L6
              obtain ⟨F, hF⟩ : ∃ F, Hid (faultR (k : Int) r6 105 = F) := ⟨_, rfl⟩
              have hF2 : Hid (faultR (k : Int) (rdR k rr lp 105) 105 = F) := by show _ = _; rw [← hF.out, ← hr6.out]; rfl
              obtain ⟨sa6, m6, cap6, hb6⟩ := L6.out.rd
              have c0 := hb6.c0
              have hrg := hb6.range
              have RK : Hid (Rok w6 r6) := ⟨hb6.dep, L6.out.kys.1, L6.out.kys.2⟩
              have KN : Hid (Knd w6) := HK.out.below hb6.low (Nat.le_refl _)
              have L6d : Hid (Lr w0 w w6.drew g it k S (p + 1) l6 r6) := ⟨L6.out.rd.drew, L6.out.iter, L6.out.tch.drew, L6.out.kys⟩
              clear hb6
              go_wp2
              refine wp_region_noPanic ?_
              refine wp_region_held_drew (S := (fun w' => w'.cell? ⟨g, 0, none⟩ = some (.int .i64 (k : Int)) ∧ w'.rangeAt g 2 (rcs r6))) (by kernel_rfl) ⟨c0, hrg⟩ (fun hHeld => ?_)
              refine tk 0 ?_
              refine tk 1 ?_
              refine tk 2 ?_
              refine tk 3 ?_
              refine tk 4 ?_
              refine tk 5 ?_
              refine tk 6 ?_
              refine tq 7 rfl (yieldsIf_load_mid (by rfl) 30 _ rfl g 2 rfl (rcs r6) _ (fun _ h => h.2) Tryz.underlying30 rfl (by kernel_rfl)) ?_
              refine tk 8 ?_
              refine wpAnyH_ready (rs := [9]) (by kernel_rfl) (by simp) ?_
              refine AllReadyH.cons rfl (fun K hK => ?_) AllReadyH.nil
              rw [if_pos (by rfl)]
              go_wp2_with fail
              refine (rfaultOf_any k r6 105 _ hltr.out h1 h7 (RK.out.drewN 1) (KN.out.drewN 1)).mono ?_
              rintro e w7 ⟨rfl, hb7⟩
              rw [hF.out]
              have L7 : Hid (Lr w0 w w7 g it k S (p + 1) l6 r6) := L6d.out.on hb7
              obtain ⟨sb, mb, cb, hb8⟩ := L7.out.rd
              refine hK.out _ _ ⟨hb8.c0, hb8.range⟩ (fun hHeld => ?_)
              clear hK K
              try simp only [Act.put, List.getElem_toArray, List.getElem_cons_succ, List.getElem_cons_zero, List.setIfInBounds_toArray, List.set_cons_zero, List.set_cons_succ]
              refine tk 10 ?_
              refine wpAnyH_done (by kernel_rfl) ?_ _
              refine NoPanic.normal ?_
              clear hb7 hb8 hHeld
              by_cases hz : F = 0
              · subst hz
                have HN := hide (HA.out.trans (rdGo_next (xs := xs) (p := p) (r := rr) (l := lp) hlt (by rw [hxx.out]; exact hee.out) (by rw [hxx.out]; exact hF2.out) aa dd cc))
                rw [hxx.out, hl6.out, hr6.out] at HN
                go_wp2
                go_roundw
                case rel => exact ⟨p + 1, r6, l6, by omega, L7, HN⟩
                case measure => have q1 := hpos.out; have q2 := L7.out.pos; rw [q1, q2]; omega
              · have fn : ((F : Int) != 0) = true := by rw [bne_iff_ne]; omega
                have HN : Hid (rdEq (rdRec k l) (r6, (F : Int))) := by
                  have e2 := rdGo_fault (xs := xs) (p := p) (r := rr) (l := lp) hlt (by rw [hxx.out]; exact hee.out) (by rw [hxx.out, hF2.out]; exact hz)
                  rw [hxx.out, hF2.out] at e2
                  refine HZ.out.trans (HA.out.trans ?_)
                  rw [e2, ← hr6.out]
                  exact ⟨rfl, rfl⟩
                clear hz
                go_wp2
                go_ret
                exact ⟨r6, l6, by rw [HN.out.2]; rfl, L7.out.tch, L7.out.rd, HN.out.1.symm⟩
            · have hne : (ee != 0) = true := by simpa using h0
              have HN : Hid (rdEq (rdRec k l) ((rdR k rr lp 105).lay aa dd cc, ee)) := by
                have e2 := rdGo_bad (xs := xs) (p := p) (r := rr) (l := lp) hlt (by rw [hxx.out, hee.out]; exact h0)
                rw [hxx.out, hee.out] at e2
                refine HZ.out.trans (HA.out.trans ?_)
                rw [e2]
                exact ⟨rfl, rfl⟩
              clear h0
              go_wp2
              go_ret
              exact ⟨_, _, by rw [HN.out.2]; rfl, L6.out.tch, L6.out.rd, HN.out.1.symm⟩
          · have hf1 := field_1
            have hltr : Hid (Ltr 98) := by show Ltr 98; unfold Ltr; omega
            go_wp2_with fail
            refine (fieldOf_bal _).mono ?_
            rintro e w5 ⟨rfl, hb5⟩
            have L5 := hide (HP1.out.on hb5)
            clear hb5
            go_wp2_with fail
            have X5 := L5.out.rd
            refine (rdballot_any w0 g k rr lp a _ HE.out X5).mono ?_
            rintro e w6 ⟨aa, dd, cc, rfl, T6, X6⟩
            have KY : Kys ((rdR k rr lp 98).lay aa dd cc) := kys_rd X5.byt L5.out.kys hltr.out aa dd cc
            have L6 := hide (L5.out.put T6 X6 KY)
            clear X5 X6 T6 KY
            obtain ⟨ee, hee⟩ : ∃ ee, Hid (rdE k rr lp 98 = ee) := ⟨_, rfl⟩
            rw [hee.out]
            by_cases h0 : ee = 0
            · subst h0
              obtain ⟨l6, hl6⟩ : ∃ l6, Hid (rdL k rr lp 98 = l6) := ⟨_, rfl⟩
              obtain ⟨r6, hr6⟩ : ∃ r6, Hid ((rdR k rr lp 98).lay aa dd cc = r6) := ⟨_, rfl⟩
              rw [hl6.out, hr6.out] at L6
              obtain ⟨F, hF⟩ : ∃ F, Hid (faultR (k : Int) r6 98 = F) := ⟨_, rfl⟩
              have hF2 : Hid (faultR (k : Int) (rdR k rr lp 98) 98 = F) := by show _ = _; rw [← hF.out, ← hr6.out]; rfl
              obtain ⟨sa6, m6, cap6, hb6⟩ := L6.out.rd
              have c0 := hb6.c0
              have hrg := hb6.range
              have RK : Hid (Rok w6 r6) := ⟨hb6.dep, L6.out.kys.1, L6.out.kys.2⟩
              have KN : Hid (Knd w6) := HK.out.below hb6.low (Nat.le_refl _)
              have L6d : Hid (Lr w0 w w6.drew g it k S (p + 1) l6 r6) := ⟨L6.out.rd.drew, L6.out.iter, L6.out.tch.drew, L6.out.kys⟩
              clear hb6
              go_wp2
              refine wp_region_noPanic ?_
              refine wp_region_held_drew (S := (fun w' => w'.cell? ⟨g, 0, none⟩ = some (.int .i64 (k : Int)) ∧ w'.rangeAt g 2 (rcs r6))) (by kernel_rfl) ⟨c0, hrg⟩ (fun hHeld => ?_)
              refine tk 0 ?_
              refine tk 1 ?_
              refine tk 2 ?_
              refine tk 3 ?_
              refine tk 4 ?_
              refine tk 5 ?_
              refine tk 6 ?_
              refine tq 7 rfl (yieldsIf_load_mid (by rfl) 30 _ rfl g 2 rfl (rcs r6) _ (fun _ h => h.2) Tryz.underlying30 rfl (by kernel_rfl)) ?_
              refine tk 8 ?_
              refine wpAnyH_ready (rs := [9]) (by kernel_rfl) (by simp) ?_
              refine AllReadyH.cons rfl (fun K hK => ?_) AllReadyH.nil
              rw [if_pos (by rfl)]
              go_wp2_with fail
              refine (rfaultOf_any k r6 98 _ hltr.out h1 h7 (RK.out.drewN 1) (KN.out.drewN 1)).mono ?_
              rintro e w7 ⟨rfl, hb7⟩
              rw [hF.out]
              have L7 : Hid (Lr w0 w w7 g it k S (p + 1) l6 r6) := L6d.out.on hb7
              obtain ⟨sb, mb, cb, hb8⟩ := L7.out.rd
              refine hK.out _ _ ⟨hb8.c0, hb8.range⟩ (fun hHeld => ?_)
              clear hK K
              try simp only [Act.put, List.getElem_toArray, List.getElem_cons_succ, List.getElem_cons_zero, List.setIfInBounds_toArray, List.set_cons_zero, List.set_cons_succ]
              refine tk 10 ?_
              refine wpAnyH_done (by kernel_rfl) ?_ _
              refine NoPanic.normal ?_
              clear hb7 hb8 hHeld
              by_cases hz : F = 0
              · subst hz
                have HN := hide (HA.out.trans (rdGo_next (xs := xs) (p := p) (r := rr) (l := lp) hlt (by rw [hxx.out]; exact hee.out) (by rw [hxx.out]; exact hF2.out) aa dd cc))
                rw [hxx.out, hl6.out, hr6.out] at HN
                go_wp2
                go_roundw
                case rel => exact ⟨p + 1, r6, l6, by omega, L7, HN⟩
                case measure => have q1 := hpos.out; have q2 := L7.out.pos; rw [q1, q2]; omega
              · have fn : ((F : Int) != 0) = true := by rw [bne_iff_ne]; omega
                have HN : Hid (rdEq (rdRec k l) (r6, (F : Int))) := by
                  have e2 := rdGo_fault (xs := xs) (p := p) (r := rr) (l := lp) hlt (by rw [hxx.out]; exact hee.out) (by rw [hxx.out, hF2.out]; exact hz)
                  rw [hxx.out, hF2.out] at e2
                  refine HZ.out.trans (HA.out.trans ?_)
                  rw [e2, ← hr6.out]
                  exact ⟨rfl, rfl⟩
                clear hz
                go_wp2
                go_ret
                exact ⟨r6, l6, by rw [HN.out.2]; rfl, L7.out.tch, L7.out.rd, HN.out.1.symm⟩
            · have hne : (ee != 0) = true := by simpa using h0
              have HN : Hid (rdEq (rdRec k l) ((rdR k rr lp 98).lay aa dd cc, ee)) := by
                have e2 := rdGo_bad (xs := xs) (p := p) (r := rr) (l := lp) hlt (by rw [hxx.out, hee.out]; exact h0)
                rw [hxx.out, hee.out] at e2
                refine HZ.out.trans (HA.out.trans ?_)
                rw [e2]
                exact ⟨rfl, rfl⟩
              clear h0
              go_wp2
              go_ret
              exact ⟨_, _, by rw [HN.out.2]; rfl, L6.out.tch, L6.out.rd, HN.out.1.symm⟩
          · have hf1 := field_1
            have hltr : Hid (Ltr 115) := by show Ltr 115; unfold Ltr; omega
            go_wp2_with fail
            refine (fieldOf_same _).mono ?_
            rintro e w5 ⟨rfl, hb5⟩
            have L5 := hide (HP1.out.on hb5)
            clear hb5
            go_wp2_with fail
            have X5 := L5.out.rd
            refine (rdsame_any w0 g k rr lp a _ HE.out X5).mono ?_
            rintro e w6 ⟨aa, dd, cc, rfl, T6, X6⟩
            have KY : Kys ((rdR k rr lp 115).lay aa dd cc) := kys_rd X5.byt L5.out.kys hltr.out aa dd cc
            have L6 := hide (L5.out.put T6 X6 KY)
            clear X5 X6 T6 KY
            obtain ⟨ee, hee⟩ : ∃ ee, Hid (rdE k rr lp 115 = ee) := ⟨_, rfl⟩
            rw [hee.out]
            by_cases h0 : ee = 0
            · subst h0
              obtain ⟨l6, hl6⟩ : ∃ l6, Hid (rdL k rr lp 115 = l6) := ⟨_, rfl⟩
              obtain ⟨r6, hr6⟩ : ∃ r6, Hid ((rdR k rr lp 115).lay aa dd cc = r6) := ⟨_, rfl⟩
              rw [hl6.out, hr6.out] at L6
              obtain ⟨F, hF⟩ : ∃ F, Hid (faultR (k : Int) r6 115 = F) := ⟨_, rfl⟩
              have hF2 : Hid (faultR (k : Int) (rdR k rr lp 115) 115 = F) := by show _ = _; rw [← hF.out, ← hr6.out]; rfl
              obtain ⟨sa6, m6, cap6, hb6⟩ := L6.out.rd
              have c0 := hb6.c0
              have hrg := hb6.range
              have RK : Hid (Rok w6 r6) := ⟨hb6.dep, L6.out.kys.1, L6.out.kys.2⟩
              have KN : Hid (Knd w6) := HK.out.below hb6.low (Nat.le_refl _)
              have L6d : Hid (Lr w0 w w6.drew g it k S (p + 1) l6 r6) := ⟨L6.out.rd.drew, L6.out.iter, L6.out.tch.drew, L6.out.kys⟩
              clear hb6
              go_wp2
              refine wp_region_noPanic ?_
              refine wp_region_held_drew (S := (fun w' => w'.cell? ⟨g, 0, none⟩ = some (.int .i64 (k : Int)) ∧ w'.rangeAt g 2 (rcs r6))) (by kernel_rfl) ⟨c0, hrg⟩ (fun hHeld => ?_)
              refine tk 0 ?_
              refine tk 1 ?_
              refine tk 2 ?_
              refine tk 3 ?_
              refine tk 4 ?_
              refine tk 5 ?_
              refine tk 6 ?_
              refine tq 7 rfl (yieldsIf_load_mid (by rfl) 30 _ rfl g 2 rfl (rcs r6) _ (fun _ h => h.2) Tryz.underlying30 rfl (by kernel_rfl)) ?_
              refine tk 8 ?_
              refine wpAnyH_ready (rs := [9]) (by kernel_rfl) (by simp) ?_
              refine AllReadyH.cons rfl (fun K hK => ?_) AllReadyH.nil
              rw [if_pos (by rfl)]
              go_wp2_with fail
              refine (rfaultOf_any k r6 115 _ hltr.out h1 h7 (RK.out.drewN 1) (KN.out.drewN 1)).mono ?_
              rintro e w7 ⟨rfl, hb7⟩
              rw [hF.out]
              have L7 : Hid (Lr w0 w w7 g it k S (p + 1) l6 r6) := L6d.out.on hb7
              obtain ⟨sb, mb, cb, hb8⟩ := L7.out.rd
              refine hK.out _ _ ⟨hb8.c0, hb8.range⟩ (fun hHeld => ?_)
              clear hK K
              try simp only [Act.put, List.getElem_toArray, List.getElem_cons_succ, List.getElem_cons_zero, List.setIfInBounds_toArray, List.set_cons_zero, List.set_cons_succ]
              refine tk 10 ?_
              refine wpAnyH_done (by kernel_rfl) ?_ _
              refine NoPanic.normal ?_
              clear hb7 hb8 hHeld
              by_cases hz : F = 0
              · subst hz
                have HN := hide (HA.out.trans (rdGo_next (xs := xs) (p := p) (r := rr) (l := lp) hlt (by rw [hxx.out]; exact hee.out) (by rw [hxx.out]; exact hF2.out) aa dd cc))
                rw [hxx.out, hl6.out, hr6.out] at HN
                go_wp2
                go_roundw
                case rel => exact ⟨p + 1, r6, l6, by omega, L7, HN⟩
                case measure => have q1 := hpos.out; have q2 := L7.out.pos; rw [q1, q2]; omega
              · have fn : ((F : Int) != 0) = true := by rw [bne_iff_ne]; omega
                have HN : Hid (rdEq (rdRec k l) (r6, (F : Int))) := by
                  have e2 := rdGo_fault (xs := xs) (p := p) (r := rr) (l := lp) hlt (by rw [hxx.out]; exact hee.out) (by rw [hxx.out, hF2.out]; exact hz)
                  rw [hxx.out, hF2.out] at e2
                  refine HZ.out.trans (HA.out.trans ?_)
                  rw [e2, ← hr6.out]
                  exact ⟨rfl, rfl⟩
                clear hz
                go_wp2
                go_ret
                exact ⟨r6, l6, by rw [HN.out.2]; rfl, L7.out.tch, L7.out.rd, HN.out.1.symm⟩
            · have hne : (ee != 0) = true := by simpa using h0
              have HN : Hid (rdEq (rdRec k l) ((rdR k rr lp 115).lay aa dd cc, ee)) := by
                have e2 := rdGo_bad (xs := xs) (p := p) (r := rr) (l := lp) hlt (by rw [hxx.out, hee.out]; exact h0)
                rw [hxx.out, hee.out] at e2
                refine HZ.out.trans (HA.out.trans ?_)
                rw [e2]
                exact ⟨rfl, rfl⟩
              clear h0
              go_wp2
              go_ret
              exact ⟨_, _, by rw [HN.out.2]; rfl, L6.out.tch, L6.out.rd, HN.out.1.symm⟩
          · have hf1 := field_1
            have hltr : Hid (Ltr 99) := by show Ltr 99; unfold Ltr; omega
            go_wp2_with fail
            refine (fieldOf_cmd _).mono ?_
            rintro e w5 ⟨rfl, hb5⟩
            have L5 := hide (HP1.out.on hb5)
            clear hb5
            go_wp2_with fail
            have X5 := L5.out.rd
            refine (rdcmd_any w0 g k rr lp a _ HE.out X5 HK.out).mono ?_
            rintro e w6 ⟨aa, dd, cc, rfl, T6, X6⟩
            have KY : Kys ((rdR k rr lp 99).lay aa dd cc) := kys_rd X5.byt L5.out.kys hltr.out aa dd cc
            have L6 := hide (L5.out.put T6 X6 KY)
            clear X5 X6 T6 KY
            obtain ⟨ee, hee⟩ : ∃ ee, Hid (rdE k rr lp 99 = ee) := ⟨_, rfl⟩
            rw [hee.out]
            by_cases h0 : ee = 0
            · subst h0
              obtain ⟨l6, hl6⟩ : ∃ l6, Hid (rdL k rr lp 99 = l6) := ⟨_, rfl⟩
              obtain ⟨r6, hr6⟩ : ∃ r6, Hid ((rdR k rr lp 99).lay aa dd cc = r6) := ⟨_, rfl⟩
              rw [hl6.out, hr6.out] at L6
              obtain ⟨F, hF⟩ : ∃ F, Hid (faultR (k : Int) r6 99 = F) := ⟨_, rfl⟩
              have hF2 : Hid (faultR (k : Int) (rdR k rr lp 99) 99 = F) := by show _ = _; rw [← hF.out, ← hr6.out]; rfl
              obtain ⟨sa6, m6, cap6, hb6⟩ := L6.out.rd
              have c0 := hb6.c0
              have hrg := hb6.range
              have RK : Hid (Rok w6 r6) := ⟨hb6.dep, L6.out.kys.1, L6.out.kys.2⟩
              have KN : Hid (Knd w6) := HK.out.below hb6.low (Nat.le_refl _)
              have L6d : Hid (Lr w0 w w6.drew g it k S (p + 1) l6 r6) := ⟨L6.out.rd.drew, L6.out.iter, L6.out.tch.drew, L6.out.kys⟩
              clear hb6
              go_wp2
              refine wp_region_noPanic ?_
              refine wp_region_held_drew (S := (fun w' => w'.cell? ⟨g, 0, none⟩ = some (.int .i64 (k : Int)) ∧ w'.rangeAt g 2 (rcs r6))) (by kernel_rfl) ⟨c0, hrg⟩ (fun hHeld => ?_)
              refine tk 0 ?_
              refine tk 1 ?_
              refine tk 2 ?_
              refine tk 3 ?_
              refine tk 4 ?_
              refine tk 5 ?_
              refine tk 6 ?_
              refine tq 7 rfl (yieldsIf_load_mid (by rfl) 30 _ rfl g 2 rfl (rcs r6) _ (fun _ h => h.2) Tryz.underlying30 rfl (by kernel_rfl)) ?_
              refine tk 8 ?_
              refine wpAnyH_ready (rs := [9]) (by kernel_rfl) (by simp) ?_
              refine AllReadyH.cons rfl (fun K hK => ?_) AllReadyH.nil
              rw [if_pos (by rfl)]
              go_wp2_with fail
              refine (rfaultOf_any k r6 99 _ hltr.out h1 h7 (RK.out.drewN 1) (KN.out.drewN 1)).mono ?_
              rintro e w7 ⟨rfl, hb7⟩
              rw [hF.out]
              have L7 : Hid (Lr w0 w w7 g it k S (p + 1) l6 r6) := L6d.out.on hb7
              obtain ⟨sb, mb, cb, hb8⟩ := L7.out.rd
              refine hK.out _ _ ⟨hb8.c0, hb8.range⟩ (fun hHeld => ?_)
              clear hK K
              try simp only [Act.put, List.getElem_toArray, List.getElem_cons_succ, List.getElem_cons_zero, List.setIfInBounds_toArray, List.set_cons_zero, List.set_cons_succ]
              refine tk 10 ?_
              refine wpAnyH_done (by kernel_rfl) ?_ _
              refine NoPanic.normal ?_
              clear hb7 hb8 hHeld
              by_cases hz : F = 0
              · subst hz
                have HN := hide (HA.out.trans (rdGo_next (xs := xs) (p := p) (r := rr) (l := lp) hlt (by rw [hxx.out]; exact hee.out) (by rw [hxx.out]; exact hF2.out) aa dd cc))
                rw [hxx.out, hl6.out, hr6.out] at HN
                go_wp2
                go_roundw
                case rel => exact ⟨p + 1, r6, l6, by omega, L7, HN⟩
                case measure => have q1 := hpos.out; have q2 := L7.out.pos; rw [q1, q2]; omega
              · have fn : ((F : Int) != 0) = true := by rw [bne_iff_ne]; omega
                have HN : Hid (rdEq (rdRec k l) (r6, (F : Int))) := by
                  have e2 := rdGo_fault (xs := xs) (p := p) (r := rr) (l := lp) hlt (by rw [hxx.out]; exact hee.out) (by rw [hxx.out, hF2.out]; exact hz)
                  rw [hxx.out, hF2.out] at e2
                  refine HZ.out.trans (HA.out.trans ?_)
                  rw [e2, ← hr6.out]
                  exact ⟨rfl, rfl⟩
                clear hz
                go_wp2
                go_ret
                exact ⟨r6, l6, by rw [HN.out.2]; rfl, L7.out.tch, L7.out.rd, HN.out.1.symm⟩
            · have hne : (ee != 0) = true := by simpa using h0
              have HN : Hid (rdEq (rdRec k l) ((rdR k rr lp 99).lay aa dd cc, ee)) := by
                have e2 := rdGo_bad (xs := xs) (p := p) (r := rr) (l := lp) hlt (by rw [hxx.out, hee.out]; exact h0)
                rw [hxx.out, hee.out] at e2
                refine HZ.out.trans (HA.out.trans ?_)
                rw [e2]
                exact ⟨rfl, rfl⟩
              clear h0
              go_wp2
              go_ret
              exact ⟨_, _, by rw [HN.out.2]; rfl, L6.out.tch, L6.out.rd, HN.out.1.symm⟩
          · have hf1 := field_1
            have hltr : Hid (Ltr 113) := by show Ltr 113; unfold Ltr; omega
            go_wp2_with fail
            refine (fieldOf_seq _).mono ?_
            rintro e w5 ⟨rfl, hb5⟩
            have L5 := hide (HP1.out.on hb5)
            clear hb5
            go_wp2_with fail
            have X5 := L5.out.rd
            refine (rdseq_any w0 g k rr lp a _ HE.out X5).mono ?_
            rintro e w6 ⟨aa, dd, cc, rfl, T6, X6⟩
            have KY : Kys ((rdR k rr lp 113).lay aa dd cc) := kys_rd X5.byt L5.out.kys hltr.out aa dd cc
            have L6 := hide (L5.out.put T6 X6 KY)
            clear X5 X6 T6 KY
            obtain ⟨ee, hee⟩ : ∃ ee, Hid (rdE k rr lp 113 = ee) := ⟨_, rfl⟩
            rw [hee.out]
            by_cases h0 : ee = 0
            · subst h0
              obtain ⟨l6, hl6⟩ : ∃ l6, Hid (rdL k rr lp 113 = l6) := ⟨_, rfl⟩
              obtain ⟨r6, hr6⟩ : ∃ r6, Hid ((rdR k rr lp 113).lay aa dd cc = r6) := ⟨_, rfl⟩
              rw [hl6.out, hr6.out] at L6
              obtain ⟨F, hF⟩ : ∃ F, Hid (faultR (k : Int) r6 113 = F) := ⟨_, rfl⟩
              have hF2 : Hid (faultR (k : Int) (rdR k rr lp 113) 113 = F) := by show _ = _; rw [← hF.out, ← hr6.out]; rfl
              obtain ⟨sa6, m6, cap6, hb6⟩ := L6.out.rd
              have c0 := hb6.c0
              have hrg := hb6.range
              have RK : Hid (Rok w6 r6) := ⟨hb6.dep, L6.out.kys.1, L6.out.kys.2⟩
              have KN : Hid (Knd w6) := HK.out.below hb6.low (Nat.le_refl _)
              have L6d : Hid (Lr w0 w w6.drew g it k S (p + 1) l6 r6) := ⟨L6.out.rd.drew, L6.out.iter, L6.out.tch.drew, L6.out.kys⟩
              clear hb6
              go_wp2
              refine wp_region_noPanic ?_
              refine wp_region_held_drew (S := (fun w' => w'.cell? ⟨g, 0, none⟩ = some (.int .i64 (k : Int)) ∧ w'.rangeAt g 2 (rcs r6))) (by kernel_rfl) ⟨c0, hrg⟩ (fun hHeld => ?_)
              refine tk 0 ?_
              refine tk 1 ?_
              refine tk 2 ?_
              refine tk 3 ?_
              refine tk 4 ?_
              refine tk 5 ?_
              refine tk 6 ?_
              refine tq 7 rfl (yieldsIf_load_mid (by rfl) 30 _ rfl g 2 rfl (rcs r6) _ (fun _ h => h.2) Tryz.underlying30 rfl (by kernel_rfl)) ?_
              refine tk 8 ?_
              refine wpAnyH_ready (rs := [9]) (by kernel_rfl) (by simp) ?_
              refine AllReadyH.cons rfl (fun K hK => ?_) AllReadyH.nil
              rw [if_pos (by rfl)]
              go_wp2_with fail
              refine (rfaultOf_any k r6 113 _ hltr.out h1 h7 (RK.out.drewN 1) (KN.out.drewN 1)).mono ?_
              rintro e w7 ⟨rfl, hb7⟩
              rw [hF.out]
              have L7 : Hid (Lr w0 w w7 g it k S (p + 1) l6 r6) := L6d.out.on hb7
              obtain ⟨sb, mb, cb, hb8⟩ := L7.out.rd
              refine hK.out _ _ ⟨hb8.c0, hb8.range⟩ (fun hHeld => ?_)
              clear hK K
              try simp only [Act.put, List.getElem_toArray, List.getElem_cons_succ, List.getElem_cons_zero, List.setIfInBounds_toArray, List.set_cons_zero, List.set_cons_succ]
              refine tk 10 ?_
              refine wpAnyH_done (by kernel_rfl) ?_ _
              refine NoPanic.normal ?_
              clear hb7 hb8 hHeld
              by_cases hz : F = 0
              · subst hz
                have HN := hide (HA.out.trans (rdGo_next (xs := xs) (p := p) (r := rr) (l := lp) hlt (by rw [hxx.out]; exact hee.out) (by rw [hxx.out]; exact hF2.out) aa dd cc))
                rw [hxx.out, hl6.out, hr6.out] at HN
                go_wp2
                go_roundw
                case rel => exact ⟨p + 1, r6, l6, by omega, L7, HN⟩
                case measure => have q1 := hpos.out; have q2 := L7.out.pos; rw [q1, q2]; omega
              · have fn : ((F : Int) != 0) = true := by rw [bne_iff_ne]; omega
                have HN : Hid (rdEq (rdRec k l) (r6, (F : Int))) := by
                  have e2 := rdGo_fault (xs := xs) (p := p) (r := rr) (l := lp) hlt (by rw [hxx.out]; exact hee.out) (by rw [hxx.out, hF2.out]; exact hz)
                  rw [hxx.out, hF2.out] at e2
                  refine HZ.out.trans (HA.out.trans ?_)
                  rw [e2, ← hr6.out]
                  exact ⟨rfl, rfl⟩
                clear hz
                go_wp2
                go_ret
                exact ⟨r6, l6, by rw [HN.out.2]; rfl, L7.out.tch, L7.out.rd, HN.out.1.symm⟩
            · have hne : (ee != 0) = true := by simpa using h0
              have HN : Hid (rdEq (rdRec k l) ((rdR k rr lp 113).lay aa dd cc, ee)) := by
                have e2 := rdGo_bad (xs := xs) (p := p) (r := rr) (l := lp) hlt (by rw [hxx.out, hee.out]; exact h0)
                rw [hxx.out, hee.out] at e2
                refine HZ.out.trans (HA.out.trans ?_)
                rw [e2]
                exact ⟨rfl, rfl⟩
              clear h0
              go_wp2
              go_ret
              exact ⟨_, _, by rw [HN.out.2]; rfl, L6.out.tch, L6.out.rd, HN.out.1.symm⟩
          · have hf1 := field_1
            have hltr : Hid (Ltr 100) := by show Ltr 100; unfold Ltr; omega
            go_wp2_with fail
            refine (fieldOf_deps _).mono ?_
            rintro e w5 ⟨rfl, hb5⟩
            have L5 := hide (HP1.out.on hb5)
            clear hb5
            go_wp2_with fail
            have X5 := L5.out.rd
            refine (rddeps_any w0 g k rr lp a _ HE.out X5 h1 h7).mono ?_
            rintro e w6 ⟨aa, dd, cc, rfl, T6, X6⟩
            have KY : Kys ((rdR k rr lp 100).lay aa dd cc) := kys_rd X5.byt L5.out.kys hltr.out aa dd cc
            have L6 := hide (L5.out.put T6 X6 KY)
            clear X5 X6 T6 KY
            obtain ⟨ee, hee⟩ : ∃ ee, Hid (rdE k rr lp 100 = ee) := ⟨_, rfl⟩
            rw [hee.out]
            by_cases h0 : ee = 0
            · subst h0
              obtain ⟨l6, hl6⟩ : ∃ l6, Hid (rdL k rr lp 100 = l6) := ⟨_, rfl⟩
              obtain ⟨r6, hr6⟩ : ∃ r6, Hid ((rdR k rr lp 100).lay aa dd cc = r6) := ⟨_, rfl⟩
              rw [hl6.out, hr6.out] at L6
              obtain ⟨F, hF⟩ : ∃ F, Hid (faultR (k : Int) r6 100 = F) := ⟨_, rfl⟩
              have hF2 : Hid (faultR (k : Int) (rdR k rr lp 100) 100 = F) := by show _ = _; rw [← hF.out, ← hr6.out]; rfl
              obtain ⟨sa6, m6, cap6, hb6⟩ := L6.out.rd
              have c0 := hb6.c0
              have hrg := hb6.range
              have RK : Hid (Rok w6 r6) := ⟨hb6.dep, L6.out.kys.1, L6.out.kys.2⟩
              have KN : Hid (Knd w6) := HK.out.below hb6.low (Nat.le_refl _)
              have L6d : Hid (Lr w0 w w6.drew g it k S (p + 1) l6 r6) := ⟨L6.out.rd.drew, L6.out.iter, L6.out.tch.drew, L6.out.kys⟩
              clear hb6
              go_wp2
              refine wp_region_noPanic ?_
              refine wp_region_held_drew (S := (fun w' => w'.cell? ⟨g, 0, none⟩ = some (.int .i64 (k : Int)) ∧ w'.rangeAt g 2 (rcs r6))) (by kernel_rfl) ⟨c0, hrg⟩ (fun hHeld => ?_)
              refine tk 0 ?_
              refine tk 1 ?_
              refine tk 2 ?_
              refine tk 3 ?_
              refine tk 4 ?_
              refine tk 5 ?_
              refine tk 6 ?_
              refine tq 7 rfl (yieldsIf_load_mid (by rfl) 30 _ rfl g 2 rfl (rcs r6) _ (fun _ h => h.2) Tryz.underlying30 rfl (by kernel_rfl)) ?_
              refine tk 8 ?_
              refine wpAnyH_ready (rs := [9]) (by kernel_rfl) (by simp) ?_
              refine AllReadyH.cons rfl (fun K hK => ?_) AllReadyH.nil
              rw [if_pos (by rfl)]
              go_wp2_with fail
              refine (rfaultOf_any k r6 100 _ hltr.out h1 h7 (RK.out.drewN 1) (KN.out.drewN 1)).mono ?_
              rintro e w7 ⟨rfl, hb7⟩
              rw [hF.out]
              have L7 : Hid (Lr w0 w w7 g it k S (p + 1) l6 r6) := L6d.out.on hb7
              obtain ⟨sb, mb, cb, hb8⟩ := L7.out.rd
              refine hK.out _ _ ⟨hb8.c0, hb8.range⟩ (fun hHeld => ?_)
              clear hK K
              try simp only [Act.put, List.getElem_toArray, List.getElem_cons_succ, List.getElem_cons_zero, List.setIfInBounds_toArray, List.set_cons_zero, List.set_cons_succ]
              refine tk 10 ?_
              refine wpAnyH_done (by kernel_rfl) ?_ _
              refine NoPanic.normal ?_
              clear hb7 hb8 hHeld
              by_cases hz : F = 0
              · subst hz
                have HN := hide (HA.out.trans (rdGo_next (xs := xs) (p := p) (r := rr) (l := lp) hlt (by rw [hxx.out]; exact hee.out) (by rw [hxx.out]; exact hF2.out) aa dd cc))
                rw [hxx.out, hl6.out, hr6.out] at HN
                go_wp2
                go_roundw
                case rel => exact ⟨p + 1, r6, l6, by omega, L7, HN⟩
                case measure => have q1 := hpos.out; have q2 := L7.out.pos; rw [q1, q2]; omega
              · have fn : ((F : Int) != 0) = true := by rw [bne_iff_ne]; omega
                have HN : Hid (rdEq (rdRec k l) (r6, (F : Int))) := by
                  have e2 := rdGo_fault (xs := xs) (p := p) (r := rr) (l := lp) hlt (by rw [hxx.out]; exact hee.out) (by rw [hxx.out, hF2.out]; exact hz)
                  rw [hxx.out, hF2.out] at e2
                  refine HZ.out.trans (HA.out.trans ?_)
                  rw [e2, ← hr6.out]
                  exact ⟨rfl, rfl⟩
                clear hz
                go_wp2
                go_ret
                exact ⟨r6, l6, by rw [HN.out.2]; rfl, L7.out.tch, L7.out.rd, HN.out.1.symm⟩
            · have hne : (ee != 0) = true := by simpa using h0
              have HN : Hid (rdEq (rdRec k l) ((rdR k rr lp 100).lay aa dd cc, ee)) := by
                have e2 := rdGo_bad (xs := xs) (p := p) (r := rr) (l := lp) hlt (by rw [hxx.out, hee.out]; exact h0)
                rw [hxx.out, hee.out] at e2
                refine HZ.out.trans (HA.out.trans ?_)
                rw [e2]
                exact ⟨rfl, rfl⟩
              clear h0
              go_wp2
              go_ret
              exact ⟨_, _, by rw [HN.out.2]; rfl, L6.out.tch, L6.out.rd, HN.out.1.symm⟩
        · have hnx := fun ty => lts_end (P := Tryz.prog) HL.out HP.out.iter hlt ty
          obtain ⟨sb, mb, cb, hb⟩ := HP.out.rd
          have hml : Hid (lp.length = mb) := hb.seg.1
          have c1 := hb.c1
          obtain ⟨F, hF⟩ : ∃ F, Hid (unlR ((mb : Int) == 0) 68 = F) := ⟨_, rfl⟩
          have HN : Hid (rdEq (rdRec k l) (rr, (F : Int))) := by
            refine HZ.out.trans (HA.out.trans ?_)
            rw [List.drop_eq_nil_of_le (by omega)]
            refine ⟨rfl, ?_⟩
            show ((unlR (lp.length == 0) 68 : Nat) : Int) = _
            rw [← hF.out, hml.out, show (mb == 0) = ((mb : Int) == 0) by rw [Bool.eq_iff_iff]; simp]
          clear hb
          go_wp2_with fail
          refine (runless_any _ 68 _).mono ?_
          rintro e w3 ⟨rfl, rfl⟩
          rw [hF.out]
          go_wp2
          go_ret
          exact ⟨rr, lp, by rw [HN.out.2]; rfl, HP.out.tch, HP.out.rd, HN.out.1.symm⟩
end
end Go.Proofs.YtlhididcanedhaaGreatDoor
