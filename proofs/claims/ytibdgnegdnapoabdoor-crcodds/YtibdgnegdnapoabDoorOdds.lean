/- Proved: for every list of bytes and every places, CrcOdds answers true: a fault of an odd number of bits is told. The table of sixteen is as the program's text lays it. -/
import Derived.Test.YtibdgnegdnapoabDoorCrc
import Derived.Test.YtibdgnegdnapoabDoorFlip
import Derived.Test.YtibdgnegdnapoabDoorLong
import Derived.Test.YtibdgnegdnapoabDoorInts
import Derived.Test.YtibdgnegdnapoabDoorCLaid
import Derived.Test.YtibdgnegdnapoabDoorArgs
import Derived.Test.YtibdgnegdnapoabDoorCards
import Derived.Test.YtibdgnegdnapoabDoorTie
import Derived.WalkSmall
import Derived.Deep.QuietTactic
import Derived.BigQuiet
import Derived.Deep.DeepHandedRow
import Derived.Deep.DeepWitnessRowRef
namespace Go.Proofs.YtibdgnegdnapoabDoor
namespace crcOdds
open Go.ChangeShapes Go.WideShapes Go.ChangeAt Go.RowKit Go.Wire1 Go.Crc2

/-- How many of the first k bits are 1. -/
def pc (z : Nat) : Nat → Nat
  | 0 => 0
  | k + 1 => pc z k + z / 2 ^ k % 2
theorem pc_le (z k : Nat) : pc z k ≤ k := by
  induction k with
  | zero => simp [pc]
  | succ k ih => rw [pc]; omega
/-- One bit, as a register. -/
def odd (n : Nat) : R := if n % 2 = 1 then 1#32 else 0#32
theorem odd_add (a b : Nat) : odd (a + b) = odd a ^^^ odd b := by
  unfold odd
  rcases (by omega : a % 2 = 0 ∨ a % 2 = 1) with h | h <;> rcases (by omega : b % 2 = 0 ∨ b % 2 = 1) with g | g <;> simp [Nat.add_mod, h, g]
theorem odd_pc : ∀ z : Fin 256, P (BitVec.ofNat 32 z.val) = odd (pc z.val 8) := by decide +kernel
theorem P_take (a b : R) {x y : Int} (hx : 0 ≤ x ∧ x < 256) (hy : 0 ≤ y ∧ y < 256) : P (take a x ^^^ take b y) = P (a ^^^ b) ^^^ odd (pc (bx x y).toNat 8) := by
  rw [← take_bx a b hx hy]
  have hz := bx_byt hx hy
  have := odd_pc ⟨(bx x y).toNat, by omega⟩
  simp only at this
  unfold take
  rw [P_steps, P_xor, this]
/-- How many bits differ in the first k bytes. -/
def dif (l m : List Int) : Nat → Nat
  | 0 => 0
  | k + 1 => dif l m k + pc (bx (l.getD k 0) (m.getD k 0)).toNat 8
theorem dif_le (l m : List Int) (k : Nat) : dif l m k ≤ 8 * k := by
  induction k with
  | zero => simp [dif]
  | succ k ih => rw [dif]; have := pc_le (bx (l.getD k 0) (m.getD k 0)).toNat 8; omega
theorem P_dif (l m : List Int) (hl : Byt l) (hm : Byt m) (r : R) (k : Nat) (h1 : k ≤ l.length) (h2 : k ≤ m.length) : P (takes r (l.take k) ^^^ takes r (m.take k)) = odd (dif l m k) := by
  induction k with
  | zero => simp [takes, dif]; decide
  | succ k ih =>
    have e : ∀ (l : List Int), k < l.length → takes r (l.take (k + 1)) = take (takes r (l.take k)) (l.getD k 0) := fun l h => by
      rw [take_next h, takes_append]; rfl
    rw [e l (by omega), e m (by omega), P_take _ _ (byt_at hl k) (byt_at hm k), ih (by omega) (by omega), dif, odd_add]
theorem law (l m : List Int) (hl : Byt l) (hm : Byt m) (h : m.length = l.length) (ho : dif l m l.length % 2 = 1) : upd 0#32 l ≠ upd 0#32 m := by
  intro e
  unfold upd at e
  have e' := not_inj e
  have := P_dif l m hl hm (~~~ 0#32) l.length (Nat.le_refl _) (by omega)
  rw [List.take_of_length_le (Nat.le_refl _), List.take_of_length_le (by omega), e', BitVec.xor_self, odd, if_pos ho] at this
  revert this
  decide +kernel

theorem bit8 (z k : Nat) (hz : z < 256) : bits .and .u8 (Int.ofNat z / (2 : Int) ^ k) 1 = ((z / 2 ^ k % 2 : Nat) : Int) := by
  have e : Int.ofNat z / (2 : Int) ^ k = ((z / 2 ^ k : Nat) : Int) := by simp
  have hlt : z / 2 ^ k < 256 := Nat.lt_of_le_of_lt (Nat.div_le_self _ _) hz
  have := u8_and_nat (z / 2 ^ k) 1 hlt (by decide)
  rw [Nat.and_one_is_mod] at this
  rw [e]; exact this

set_option maxHeartbeats 400000 in
set_option maxRecDepth 100000 in
theorem ones_any (z : Nat) (hz : z < 256) (w : World) :
    Calls Tryd.prog 19 #[.int .u8 (z : Int)] w fun e w' => e = .returned (.int .i64 (pc z 8 : Nat)) ∧ w' = w := by
  obtain ⟨fin, hfin⟩ : ∃ fin, Hid (pc z 8 = fin) := ⟨_, hide rfl⟩
  rw [hfin.out]
  go_enter Tryd.func19, Tryd.ntmps19
  go_wp2
  go_loop [3, 4] (fun v i => ∃ k : Nat, i = .int .i64 (k : Int) ∧ k ≤ 8 ∧ v = .int .i64 ((pc z k : Nat) : Int)) (fun _ i => 8 - (intOf i).toNat)
  case atStart => exact ⟨0, rfl, Nat.zero_le _, rfl⟩
  case round =>
    obtain ⟨k, rfl, hk, rfl⟩ := hrel
    by_cases hlt : k < 8
    · have e1 := bit8 z k hz
      simp only [Int.ofNat_eq_natCast] at e1
      have HT : Hid (pc z (k + 1) = pc z k + z / 2 ^ k % 2) := rfl
      have hle := pc_le z k
      generalize pc z k = m at *
      rcases (by omega : z / 2 ^ k % 2 = 0 ∨ z / 2 ^ k % 2 = 1) with h | h
      · rw [h] at e1 HT
        clear h
        go_wp2
        go_round
        case rel => exact ⟨k + 1, by go_num, by omega, by rw [HT.out]; rfl⟩
        case measure => simp [intOf]; omega
      · rw [h] at e1 HT
        clear h
        go_wp2
        go_round
        case rel => exact ⟨k + 1, by go_num, by omega, by rw [HT.out]; go_num⟩
        case measure => simp [intOf]; omega
    · obtain rfl : k = 8 := by omega
      rw [hfin.out]
      go_wp2
      go_ret
      exact ⟨rfl, rfl⟩

set_option maxHeartbeats 2000000 in
set_option maxRecDepth 100000 in
theorem walk (a : Option Addr) (n cap : Nat) (l : List Int) (pa : Option Addr) (pn pcap : Nat) (pl : List Int) (w : World) (hs : Seg w a n l) (hy : Byt l) (hreach : n ≤ 140737488351232) (hp : SegI w pa pn pl) (hH : Hal w) :
    Calls Tryd.prog 6 #[.slice a n cap, .slice pa pn pcap] w fun e w' => e = .returned (.bool true) ∧ Below w.heap.size w w' := by
  have HH : Hid (Hal w) := hH
  have HS : Hid (Seg w a n l) := hs
  have HP : Hid (SegI w pa pn pl) := hp
  have HY : Hid (Byt l) := hy
  have HL : Hid (l.length = n) := hs.1
  have hpn : pn ≤ maxLen := hp.2.1
  unfold maxLen at hpn
  clear hH hs hy hp
  have first : ∀ (w : World) (b : Bool), decide (268435456 ≤ n) = b → Calls Tryd.prog 15 #[.slice a n cap] w fun e w' => e = .returned (.bool b) ∧ w' = w := fun w b hb => by
    rw [← hb]; exact tooLong_any a n cap w
  have HF := hide first
  clear first
  by_cases c0 : 268435456 ≤ n
  · have D0 : Hid (decide (268435456 ≤ n) = true) := by show _ = _; simp; exact c0
    go_enter Tryd.func6, Tryd.ntmps6
    go_wp2_with fail
    refine (known_any _ HH.out).mono ?_
    rintro e w1 ⟨rfl, hbel⟩
    have HB := hide hbel
    clear hbel
    go_wp2_with fail
    refine (HF.out _ true D0.out).mono ?_
    rintro e w1 ⟨rfl, rfl⟩
    go_wp2
    go_ret
    exact ⟨rfl, HB.out⟩
  have D0 : Hid (decide (268435456 ≤ n) = false) := by show _ = _; simp; omega
  go_enter Tryd.func6, Tryd.ntmps6
  go_wp2_with fail
  refine (known_any _ HH.out).mono ?_
  rintro e w1 ⟨rfl, hbel⟩
  have HB := hide hbel
  have HS1 := hide (HS.out.below hbel (Nat.le_refl _))
  have HP1 := hide (HP.out.later hbel)
  have HH1 := hide (HH.out.later hbel)
  have hsz := hbel.size
  clear hbel
  go_wp2_with fail
  refine (HF.out _ false D0.out).mono ?_
  rintro e w1 ⟨rfl, rfl⟩
  go_wp2_with fail
  refine (bytes_any a n cap l _ HS1.out (by omega)).mono ?_
  rintro e w2 ⟨v, rfl, hown, hbel⟩
  obtain ⟨a2, c2, rfl, hseg2⟩ : ∃ a2 c2, v = .slice a2 n c2 ∧ Seg w2 a2 n l := by
    obtain ⟨a2, c2, h, _, _, hs⟩ := seg_own hown
    rw [HL.out] at h hs
    exact ⟨a2, c2, h, hs⟩
  have HB2 := hide hbel
  have HS2 := hide hseg2
  clear hown hseg2 hbel
  go_wp2_with fail
  go_loopw [5, 6] (fun s i wr => ∃ (k : Nat) (b : Option Addr) (c : Nat) (m : List Int), i = .int .i64 (k : Int) ∧ s = .slice b n c ∧ k ≤ pn ∧ Hid (Seg wr b n m) ∧ Hid (Byt m) ∧ Hid (Below w1.heap.size w1 wr)) (fun _ i _ => pn - (intOf i).toNat)
  case atStart => exact ⟨0, a2, c2, l, rfl, rfl, by omega, HS2, HY, HB2⟩
  case round =>
    clear HS2 HB2
    obtain ⟨k, b, c, m, rfl, rfl, hk, HS2, HM, HB2⟩ := hrel
    by_cases hlt : k < pn
    · have hsw := HB2.out.size
      obtain ⟨pb, po, rfl, hcp⟩ := HP1.out.2.2.1 (by omega)
      have hz := HP1.out.2.2.2 k
      have cp : wr.cell? ⟨pb, po + k, none⟩ = some (.int .i64 (pl.getD k 0)) := cell_later HB2.out (hcp k hlt)
      clear hcp
      generalize pl.getD k 0 = z at *
      have C : ∃ m' : List Int, Byt m' ∧ m'.length = n ∧ ∀ ww, Seg ww b n m → Calls Tryd.prog 17 #[.slice b n c, .int .i64 z] ww fun e w' => ∃ v, e = .returned v ∧ w'.ownsRow ww.heap.size 5 1 v n (m'.map (Value.int .u8)) ∧ Below ww.heap.size ww w' := by
        by_cases hin : 0 ≤ z ∧ z < 8 * (n : Int)
        · obtain ⟨q, rfl⟩ := Int.eq_ofNat_of_zero_le hin.1
          exact ⟨flip m q, flip_byt HM.out q, by rw [flip_len, HS2.out.1], fun ww h => flipped_in b n c q m ww h HM.out (by omega) (by omega)⟩
        · exact ⟨m, HM.out, HS2.out.1, fun ww h => flipped_out b n c z m ww h (by omega) (by omega) (by omega) (by omega)⟩
      obtain ⟨m', hm', hl', hC⟩ := C
      have HC := hide hC
      have HM' := hide hm'
      have HL' := hide hl'
      clear hC hm' hl'
      go_wp2_with fail
      refine (HC.out _ HS2.out).mono ?_
      rintro e w3 ⟨v3, rfl, hown, hbel⟩
      obtain ⟨a3, c3, rfl, hseg3⟩ : ∃ a3 c3, v3 = .slice a3 n c3 ∧ Seg w3 a3 n m' := by
        rw [← HL'.out] at hown
        obtain ⟨a3, c3, h, _, _, hs⟩ := seg_own hown
        rw [HL'.out] at h hs
        exact ⟨a3, c3, h, hs⟩
      have HS3 := hide hseg3
      have HB3 := hide (HB2.out.trans (hbel.mono hsw))
      clear hown hseg3 hbel
      go_wp2
      go_roundw
      case rel => exact ⟨k + 1, a3, c3, m', by go_num, rfl, by omega, HS3, HM', HB3⟩
      case measure => simp [intOf]; omega
    · have HH3 := hide (HH1.out.later HB2.out)
      have HSA := hide (HS1.out.below HB2.out (Nat.le_refl _))
      have HBF := hide (HB.out.trans (HB2.out.mono hsz))
      have hd0 : decide ((k : Int) < (pn : Int)) = false := by simp only [decide_eq_false_iff_not]; omega
      go_wp2_with fail
      go_loopw [7, 8] (fun s i w4 => ∃ (j q : Nat), i = .int .i64 (j : Int) ∧ j ≤ n ∧ s = .int .i64 ((dif l m j : Nat) : Int) ∧ w4 = wr.drewN q) (fun _ i _ => n - (intOf i).toNat)
      case atStart => exact ⟨0, 0, rfl, Nat.zero_le _, rfl, rfl⟩
      case round =>
        obtain ⟨j, q, rfl, hj, rfl, rfl⟩ := hrel
        by_cases hlt2 : j < n
        · obtain ⟨ba, oa, rfl, hca⟩ := HSA.out.2.2 (by omega)
          obtain ⟨bb, ob, rfl, hcb⟩ := HS2.out.2.2 (by omega)
          have ca : (wr.drewN q).cell? ⟨ba, oa + j, none⟩ = some (.int .u8 (l.getD j 0)) := hca j hlt2
          have cb : (wr.drewN q).cell? ⟨bb, ob + j, none⟩ = some (.int .u8 (m.getD j 0)) := hcb j hlt2
          obtain ⟨W, hW⟩ : ∃ W, Hid (wr.drewN q = W) := ⟨_, hide rfl⟩
          rw [hW.out] at ca cb ⊢
          have za := byt_at HY.out j
          have zb := byt_at HM.out j
          have ex := x8 za zb
          have zc := bx_byt za zb
          have HT : Hid (dif l m (j + 1) = dif l m j + pc (bx (l.getD j 0) (m.getD j 0)).toNat 8) := rfl
          have hle := dif_le l m j
          have hpl := pc_le (bx (l.getD j 0) (m.getD j 0)).toNat 8
          clear hca hcb
          generalize bx (l.getD j 0) (m.getD j 0) = y at *
          generalize l.getD j 0 = u at *
          generalize m.getD j 0 = t at *
          obtain ⟨y', rfl⟩ := Int.eq_ofNat_of_zero_le zc.1
          simp only [Int.toNat_natCast] at HT hpl
          have HO := hide (fun ww => ones_any y' (by omega) ww)
          generalize pc y' 8 = o at *
          generalize dif l m j = d at *
          have hlt3 : (j : Int) < (n : Int) := by omega
          go_wp2_with fail
          go_quiet ((go_at_call 19; exact Calls.quiet_of_same (HO.out _)))
          go_wp2
          go_roundw
          case rel => exact ⟨j + 1, _, by go_num, by omega, by rw [HT.out]; go_num, by rw [← hW.out, World.drewN_drewN]⟩
          case measure => simp [intOf]; omega
        · obtain rfl : j = n := by omega
          have HSB := hide (HS2.out.drewN q)
          have HSC := hide (HSA.out.drewN q)
          have HHD := hide (HH3.out.drewN q)
          have HBD := hide (below_drewN HBF.out q)
          obtain ⟨s, hs⟩ : ∃ s, Hid (upd 0#32 l = s) := ⟨_, hide rfl⟩
          obtain ⟨t, ht⟩ : ∃ t, Hid (upd 0#32 m = t) := ⟨_, hide rfl⟩
          have LAW : Hid (dif l m j % 2 = 1 → s ≠ t) := by
            intro h
            rw [← hs.out, ← ht.out]
            exact law l m HY.out HM.out (by rw [HL.out, HS2.out.1]) (by rw [HL.out]; exact h)
          have hle := dif_le l m j
          generalize wr.drewN q = W at *
          generalize dif l m j = d at *
          go_wp2_with fail
          refine (sum_any a j cap l _ HSC.out HY.out HHD.out).mono ?_
          rintro e W ⟨rfl, rfl⟩
          rw [hs.out]
          go_wp2_with fail
          refine (sum_any b j c m _ HSB.out HM.out HHD.out).mono ?_
          rintro e W ⟨rfl, rfl⟩
          rw [ht.out]
          rcases (by omega : d % 2 = 0 ∨ d % 2 = 1) with h | h
          · have e1 : (d : Int) % 2 = 0 := by omega
            go_wp2
            go_ret
            refine ⟨?_, HBD.out⟩
            simp
          · have e1 : (d : Int) % 2 = 1 := by omega
            have hf : ¬ s.toNat = t.toNat := fun e => LAW.out h (BitVec.eq_of_toNat_eq e)
            have d2 : ((s.toNat : Int) == (t.toNat : Int)) = false := by simp only [beq_eq_false_iff_ne, ne_eq]; omega
            go_wp2
            go_ret
            refine ⟨?_, HBD.out⟩
            simp
            try omega

set_option maxRecDepth 100000 in
/-- For every argument and every world that holds the sentinels. -/
theorem contract (H : Type) (enc : TypeId × Value → H) (W : World) (base : Nat) (args : Array Value) (ds gs : List (DataW H)) (before : List MemPlace)
    (hval : ∀ (j : Nat) t v, Tryd.f6.params[j]? = some t → args[j]? = some v → Value.okWide Tryd.prog W .any base t v)
    (hW : DataW.Whole enc Tryd.prog Tryd.f6.params.toList Rows.crcOddsSpec.vars false W args.toList ds gs before)
    (hsz : (DataW.weightsEach Tryd.prog (Tryd.f6.params.toList ++ (OpenSpec.ofChange Rows.crcOddsSpec).bare.plain.varTypes Tryd.prog) (ds ++ gs)).all (· ≤ reachBytes) = true)
    (hL : laidMetH Tryd.prog Rows.crcOddsRow.laid W) :
    Calls Tryd.prog 6 args W fun e W' => ∃ v, e = .returned v ∧ Rows.crcOddsSpec.post enc Tryd.prog Tryd.f6 false true false false W args v W' := by
  have hW' := hW
  obtain ⟨p, q, hA0, hV, rfl, hfz, hnd⟩ := hW
  have hA : DataW.TrodAll enc Tryd.prog W 0 (fun _ => true) true Tryd.f6.params.toList args.toList ds p := hA0
  rw [Tryd.params6] at hA hval hsz
  obtain ⟨v0, vs0, d0, ds0, p0, q0, hargs, rfl, rfl, h0, r0⟩ := trodAll_cons hA
  obtain ⟨v1, vs1, d1, ds1, p1, q1, rfl, rfl, rfl, h1, r1⟩ := trodAll_cons r0
  obtain ⟨rfl, rfl, rfl⟩ := trodAll_nil r1
  obtain rfl : args = #[v0, v1] := by cases args; simp_all
  obtain ⟨rfl, rfl⟩ := trodVars_none hV
  obtain ⟨a0, n0, cap0, rfl⟩ := okWide_slice Tryd.underlying26 (hval 0 26 v0 rfl rfl)
  have k0 := h0
  have lt0 : ∀ x ∈ p0, x.block < W.heap.size := by obtain ⟨m, hm⟩ := k0; exact DataW.trod_lt m _ _ _ hm
  obtain ⟨fuel0, hf0⟩ := h0
  obtain ⟨l0, hseg0, hbyt0, hcap0, hdat0⟩ := open_bytes hf0
  obtain ⟨a1, n1, cap1, rfl⟩ := okWide_slice Tryd.underlying27 (hval 1 27 v1 rfl rfl)
  have k1 := h1
  have lt1 : ∀ x ∈ p1, x.block < W.heap.size := by obtain ⟨m, hm⟩ := k1; exact DataW.trod_lt m _ _ _ hm
  obtain ⟨fuel1, hf1⟩ := h1
  obtain ⟨l1, hseg1, hcap1⟩ := open_ints hf1
  have hreach0 : cap0 ≤ 140737488351232 := by
    rcases hdat0 with ⟨_, _, h⟩ | ⟨elems, spare, hd, he, hc⟩
    · omega
    · have hs := sized_slice hsz (j := 0) (t := 26) (e := 5) (elems := elems) (spare := spare) rfl (by rw [show d0 = _ from hd]; rfl) Tryd.underlying26
      rw [bytes5] at hs
      simp only [reachBytes] at hs
      omega
  have hH := hal_of_laid hL
  clear hA0

  refine (walk a0 n0 cap0 l0 a1 n1 cap1 l1 W hseg0 hbyt0 (by omega) hseg1 hH).mono fun e W' ⟨he, bel⟩ => ?_
  subst he
  exact ⟨_, rfl, _, _, _, [], _, [], hW', trodAll_mk1 (shut_bool Tryd.underlying4 _), (trodAll_cons_mk (Below.trod laidOut (by kernel_rfl) (of_decide_eq_true (by kernel_rfl)) k0 bel lt0) (trodAll_cons_mk (Below.trod laidOut (by kernel_rfl) (of_decide_eq_true (by kernel_rfl)) k1 bel lt1) trodAll_mk0)), rfl, bel.frame _, fun h => by cases h⟩

theorem reads (os : Os) {H : Type} (enc : TypeId × Value → H) : ∃ places, DataW.whole enc Tryd.prog ((World.doorLaid Tryd.prog 104 os).forCall (fun _ _ => 0) ⟨#[], #[.slice none 0 0, .slice none 0 0], []⟩).memory Tryd.f6.params.toList Rows.crcOddsSpec.vars false (#[Value.slice none 0 0, .slice none 0 0] : Array Value).toList 8 = some ([.nil, .nil], [], places) :=
  ⟨[], by kernel_rfl⟩

set_option maxRecDepth 100000 in
theorem lifted (os : Os) (started : os.Started) (H : Type) (enc : TypeId × Value → H) (F : Stop.Interp) :
    ReturnsInHanded {} Tryd.checked os 6 .any ((OpenSpec.ofChange Rows.crcOddsSpec).preRow enc Tryd.prog Tryd.f6 Rows.crcOddsRow.domain false Rows.crcOddsRow.laid) (((OpenSpec.ofChange Rows.crcOddsSpec).at F).post enc Tryd.prog Tryd.f6 false true false false) := by
  obtain ⟨places, hx⟩ := reads os enc
  refine returnsInHanded_of_row (C := Tryd.checked) (s := (OpenSpec.ofChange Rows.crcOddsSpec)) own started (by kernel_rfl) Tryd.func6
    (witness_row_atRef (enc := enc) (C := Tryd.checked) false (World.doorLaid Tryd.prog 104 os) #[.slice none 0 0, .slice none 0 0] rfl (by kernel_rfl) (by kernel_rfl) (by kernel_rfl)
      (OpenSpec.preRow_of_cond 8 hx (by kernel_rfl) (fun k hk => by cases hk) (by kernel_rfl) (door_met os _))) ?_
  intro W base args ds gs before hval hW _ hcond hsz hL _ _
  exact contract H enc W base args ds gs before hval hW hsz hL

theorem said : Rows.CrcOddsSaid :=
  OpenClaim.holds_of_cond 6 Tryd.f6 rfl rfl rfl rfl rfl rfl rfl ⟨rfl, rfl, rfl, rfl, rfl⟩ rfl rfl rfl rfl rfl (by kernel_rfl) Tryd.func6 (by kernel_rfl)
    (of_decide_eq_true (by kernel_rfl)) (by unfold Func.isWrapper; first | (rw [if_pos (by decide +kernel)]; kernel_rfl) | (rw [if_neg (by decide +kernel)]; exact ⟨rfl, rfl⟩))
    (fun os started H enc _ F => by rw [OpenClaim.pre_eq_preRow]; exact lifted os started H enc F)

theorem plain (f : FuncId) (fn : Func) (hf : Tryd.pinned.checked.prog.funcNamed "moot/mootlaw2.CrcOdds" = some f) (hfn : Tryd.pinned.checked.prog.funcs[f]? = some fn) :
    false = Tryd.pinned.checked.prog.looks [] ∧ ∀ (j : Nat) t, fn.params[j]? = some t → Tryd.pinned.checked.prog.wantsStandIn t = false := by
  obtain rfl : f = 6 := Option.some.inj ((show Tryd.prog.funcNamed "moot/mootlaw2.CrcOdds" = some 6 by kernel_rfl).symm.trans hf) |>.symm
  obtain rfl : fn = Tryd.f6 := (Option.some.inj (Tryd.func6.symm.trans hfn)).symm
  refine ⟨by kernel_rfl, fun j t ht => ?_⟩
  rw [Tryd.params6] at ht
  have hm : t ∈ [26, 27] := by simpa using Array.mem_of_getElem? ht
  have hall : ([26, 27].all fun u => !Tryd.prog.wantsStandIn u) = true := by kernel_rfl
  exact (show Tryd.prog.wantsStandIn t = false by simpa using List.all_eq_true.1 hall t hm)

end crcOdds
theorem crcOdds_proved : Rows.CrcOddsCardSaid :=
  Claim7.holds_tied_plain_at .later [] _ _ _ _ crcOdds.said (fun _ h => by cases h) (by kernel_rfl) (fun _ h => by cases h) crcOdds_row_tie rfl ⟨rfl, rfl⟩ (by kernel_rfl) rfl crcOdds.plain (by kernel_rfl)
#print axioms crcOdds_proved
end Go.Proofs.YtibdgnegdnapoabDoor
