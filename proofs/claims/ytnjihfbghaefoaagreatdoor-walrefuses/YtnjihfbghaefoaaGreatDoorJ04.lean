/- Texts of the proof, joined. -/
import Derived.Test.YtnjihfbghaefoaaGreatDoorJ03
import Derived.Maps.AppendAt
import Derived.Laws.AppendOwnNone
import Derived.Lib.SliceRun
import Derived.Test.YtnjihfbghaefoaaGreatDoorJ01
import Derived.Lib.MinMaxS
import Derived.Laws.Concat
/- The contract of the disk's method Append. -/
namespace Go.Proofs.YtnjihfbghaefoaaGreatDoor
open Go.RowKit Go.Wire1 Go.MuLone

section
variable (w : World) (b : Nat) (pv : Value) (l : List Int) (m E0 : Nat)

set_option maxHeartbeats 1000000 in
set_option maxRecDepth 100000 in
theorem append_nil (h : Dsk 0 w b pv l m E0) :
    Calls Tryz.prog 50 #[.pointer (some ⟨b, 0, none⟩), .slice none 0 0] w fun r w' => r = .returned (.int .i64 0) ∧ ∃ pv', Dst 0 w w' b pv pv' l m E0 := by
  obtain ⟨i0, hi, hz0, hz1, hz2⟩ := info_parts Tryz.info5
  obtain ⟨sa, cap1, rfl⟩ := own_shape h.own
  have c0 := h.box.cell 0 _ rfl
  have c2 := h.box.cell 2 _ rfl
  have c3 := h.box.cell 3 _ rfl
  have f0 := h.box.thaw 0
  have f2 := h.box.thaw 2
  have ht := h.top
  have h1 := h.lock 1
  have h2 := h1.trans (h1.dsk.cut (Nat.le_refl _) h.le)
  rw [List.take_length] at h2
  have R := hide (h2.trans (h2.dsk.lock 0))
  have L1 : Hid (((w.setCell ⟨b, 0, none⟩ (.int .i32 1)).setCell ⟨b, 2, none⟩ (.slice sa l.length cap1)).cell? ⟨b, 0, none⟩ = some (.int .i32 1)) := h2.dsk.box.cell 0 _ rfl
  have OW := hide h1.dsk.own
  clear h1 h2 h
  generalize l.map (Value.int .u8) = L at *
  generalize l.length = n0 at *
  have q1 : ¬ (4194304 - (n0 : Int) < 0) := by omega
  go_enter_defers Tryz.func50, Tryz.ntmps50
  go_wp2_with (first | (go_at_call 39; refine (lock_free Tryz.muLib ⟨b, 0, none⟩ _ c0 f0).mono ?_; rintro e w' ⟨rfl, rfl⟩) | (at_builtin; refine wpList_append_own_none rfl _ _ 46 rfl E0 5 i0 1 Tryz.underlying46 hi _ _ _ rfl OW.out rfl ?_))
  refine leaves_cons (f := 40) (args := #[.pointer (some ⟨b, 0, none⟩)]) (by simp) (by simp [go_sem]) ?_
  refine (unlock_deferred Tryz.muLib ⟨b, 0, none⟩ .returning _ (by exact L1.out) (by simp [f0])).mono ?_
  rintro e u' w'' ⟨rfl, rfl, rfl⟩
  exact ⟨_, results_tmp rfl _ _ _, rfl, _, R.out⟩

set_option maxHeartbeats 1000000 in
set_option maxRecDepth 100000 in
theorem append_some (ad : Addr) (n cap : Nat) (bs : List Int) (h : Dsk 0 w b pv l m E0) (hs : Seg w (some ad) n bs) (hy : Byt bs) (hsep : 0 < n → ad.block ≠ b) (hfit : l.length + n ≤ 4194304) :
    Calls Tryz.prog 50 #[.pointer (some ⟨b, 0, none⟩), .slice (some ad) n cap] w fun r w' => r = .returned (.int .i64 0) ∧ ∃ pv', Dst 0 w w' b pv pv' (l ++ bs) m E0 := by
  obtain ⟨i0, hi, hz0, hz1, hz2⟩ := info_parts Tryz.info5
  obtain ⟨sa, cap1, rfl⟩ := own_shape h.own
  have c0 := h.box.cell 0 _ rfl
  have c2 := h.box.cell 2 _ rfl
  have c3 := h.box.cell 3 _ rfl
  have f0 := h.box.thaw 0
  have f2 := h.box.thaw 2
  have ht := h.top
  have hlow : E0 ≤ w.heap.size := by have := h.low; have := h.box.lt; omega
  have h1 := h.lock 1
  have hcells : ∀ j u, (bs.map (Value.int .u8))[j]? = some u → (w.setCell ⟨b, 0, none⟩ (.int .i32 1)).cell? (ad.add j) = some u := fun j u hj => by
    have hjl : j < bs.length := by
      rcases Nat.lt_or_ge j bs.length with h | h
      · exact h
      · simp [List.getElem?_eq_none (show (bs.map (Value.int .u8)).length ≤ j by simpa using h)] at hj
    have h0 : 0 < n := by rw [← hs.1]; omega
    obtain ⟨b2, off, e, hc⟩ := hs.2.2 h0
    have hne := hsep h0
    cases e
    have hcj := hc j (by rw [← hs.1]; exact hjl)
    rw [add_at, World.cell?_setCell_other _ _ _ _ (by intro e; injection e with e _ _; exact hne e.symm), hcj]
    simp [List.getElem?_eq_getElem hjl] at hj
    subst hj
    simp [List.getElem?_eq_getElem hjl]
  have HH := hide h1
  have HL := hide hs.1
  have OW := hide h1.dsk.own
  have HY := hide (And.intro h.byt hy)
  have HLE := hide h.le
  have HC := hide hcells
  have HI := hide h.box.lt
  clear h1 h hs hy hcells hsep
  obtain ⟨L, hL⟩ : ∃ L, L = l.map (Value.int .u8) := ⟨_, rfl⟩
  obtain ⟨M, hM⟩ : ∃ M, M = bs.map (Value.int .u8) := ⟨_, rfl⟩
  obtain ⟨n0, hn0⟩ : ∃ n0, n0 = l.length := ⟨_, rfl⟩
  rw [← hn0] at hfit ht c2
  have q1 : ¬ (4194304 - (n0 : Int) < (n : Int)) := by omega
  have HN0 := hide hn0
  rw [← hL, ← hn0] at OW
  rw [← hM] at HC
  have HM := hide hM
  have HLL := hide hL
  rw [← hn0]
  rw [← hn0] at HH
  clear hn0 hL hM
  go_enter_defers Tryz.func50, Tryz.ntmps50
  go_wp2_with (first | (go_at_call 39; refine (lock_free Tryz.muLib ⟨b, 0, none⟩ _ c0 f0).mono ?_; rintro e w' ⟨rfl, rfl⟩) | (at_builtin; refine wpList_append_own_at _ rfl _ _ 46 rfl E0 5 i0 (.int .u8 0) 1 1 Tryz.underlying46 hi hz0 hz1 hz2 rfl (by decide) _ _ _ rfl OW.out ad n cap M rfl ?c0 HC.out ?c2 ?c3 ?c4 ?c5 ?_))
  case c0 => rw [HM.out, List.length_map, HL.out, Nat.mul_one]
  case c2 => intro u hu; rw [HM.out] at hu; obtain ⟨z, _, rfl⟩ := List.mem_map.1 hu; rfl
  case c3 => unfold maxLen; omega
  case c4 => omega
  case c5 => simpa [World.setCell] using hlow
  intro v' w2 hown' hgrow _ hat
  obtain ⟨sa2, cap2, rfl⟩ := own_shape hown'
  have hN : (l ++ bs).length = n0 + n := by rw [List.length_append, HL.out, HN0.out]
  have G := HH.out.dsk.grow (l' := l ++ bs) (by rw [hN, List.map_append, ← HLL.out, ← HM.out]; exact hown') hgrow (hat.imp id (fun e => by rw [e]; simp [World.setCell])) (by rw [hN]; have := HLE.out; have := HN0.out; omega) (by rw [hN]; omega) (fun z hz => (List.mem_append.1 hz).elim (HY.out.1 z) (HY.out.2 z))
  have hblk : w2.heap[b]? = (w.setCell ⟨b, 0, none⟩ (.int .i32 1)).heap[b]? := hgrow.block b (by simpa [World.setCell] using HI.out) (fun e => HH.out.dsk.far e.symm)
  have d2 : w2.cell? ⟨b, 2, none⟩ = some (.slice sa n0 cap1) := (World.cell?_of_block (a := ⟨b, 2, none⟩) hblk).trans (HH.out.dsk.box.cell 2 _ rfl)
  have g2 : w2.frozen? ⟨b, 2, none⟩ = false := (World.frozen?_of_block (a := ⟨b, 2, none⟩) hblk).trans (HH.out.dsk.box.thaw 2)
  have g0 : w2.frozen? ⟨b, 0, none⟩ = false := (World.frozen?_of_block (a := ⟨b, 0, none⟩) hblk).trans (HH.out.dsk.box.thaw 0)
  have h2 := HH.out.trans G
  have R := hide (h2.trans (h2.dsk.lock 0))
  have L1 : Hid ((w2.setCell ⟨b, 2, none⟩ (.slice sa2 (n0 + n) cap2)).cell? ⟨b, 0, none⟩ = some (.int .i32 1)) := h2.dsk.box.cell 0 _ rfl
  clear hown' hgrow hat G h2 hblk HH OW HC
  go_wp2
  refine leaves_cons (f := 40) (args := #[.pointer (some ⟨b, 0, none⟩)]) (by simp) (by simp [go_sem]) ?_
  refine (unlock_deferred Tryz.muLib ⟨b, 0, none⟩ .returning _ (by exact L1.out) (by simp [g0])).mono ?_
  rintro e u' w'' ⟨rfl, rfl, rfl⟩
  exact ⟨_, results_tmp rfl _ _ _, rfl, _, R.out⟩
end
end Go.Proofs.YtnjihfbghaefoaaGreatDoor
/- The contract of bytes.Clone. -/
namespace Go.Proofs.YtnjihfbghaefoaaGreatDoor
open Go.RowKit Go.Wire1 Go.Lib

set_option maxHeartbeats 1000000 in
set_option maxRecDepth 100000 in
theorem dkclone_any (sa : Option Addr) (n cap : Nat) (l : List Int) (w : World) (hs : Seg w sa n l) (hlen : n ≤ 140737488355328) (hnone : sa = none → n = 0) :
    Calls Tryz.prog 41 #[.slice sa n cap] w fun e w' => ∃ v, e = .returned v ∧ w'.ownsRow w.heap.size 5 1 v l.length (l.map (Value.int .u8)) ∧ Below w.heap.size w w' := by
  obtain ⟨i0, hi, hz0, hz1, hz2⟩ := info_parts Tryz.info5
  have qn : ∀ (w : World) (a : Option Addr) (n c n' c' : Nat), (binOp .eql 46 (.slice a n c) (.slice none n' c')).run Tryz.prog w = .ok (.bool a.isNone) w := fun w a n c n' c' => Lib.run_eql_slice_nil w _ _ a n c n' c' Tryz.underlying46
  cases sa with
  | none =>
    obtain rfl := hnone rfl
    obtain rfl : l = [] := List.eq_nil_of_length_eq_zero hs.1
    go_enter Tryz.func41, Tryz.ntmps41
    go_wp2
    go_ret
    exact ⟨_, rfl, World.ownsRow_nil _ _ _ _, Below.refl _ _⟩
  | some ad =>
    have hl := hide hs.1
    have ho : (w.alloc (.cells #[] 5)).ownsRow w.heap.size 5 1 (.slice (some ⟨w.heap.size, 0, none⟩) 0 0) 0 [] := World.ownsRow_made w #[] 0 (Nat.le_refl _) (by unfold maxLen; omega) rfl
    have hcells : ∀ j u, (l.map (Value.int .u8))[j]? = some u → (w.alloc (.cells #[] 5)).cell? (ad.add j) = some u := fun j u hj => by
      have hjl : j < l.length := by
        rcases Nat.lt_or_ge j l.length with h | h
        · exact h
        · simp [List.getElem?_eq_none (show (l.map (Value.int .u8)).length ≤ j by simpa using h)] at hj
      obtain ⟨b, off, e, hc⟩ := hs.2.2 (by rw [← hs.1]; omega)
      cases e
      have hcj := hc j (by rw [← hs.1]; exact hjl)
      rw [add_at, World.cell?_alloc_past _ _ _ (cell_lt hcj), hcj]
      simp [List.getElem?_eq_getElem hjl] at hj
      subst hj
      simp [List.getElem?_eq_getElem hjl]
    go_enter Tryz.func41, Tryz.ntmps41
    go_wp2_with (first
      | (at_builtin; refine wpList_append_own _ rfl _ _ 46 rfl w.heap.size 5 i0 (.int .u8 0) 1 1 Tryz.underlying46 hi hz0 hz1 hz2 rfl (by decide) _ _ _ rfl ho ad n cap (l.map (Value.int .u8)) rfl ?c0 hcells ?c2 ?c3 ?c4 ?c5 ?_))
    case c0 => rw [List.length_map, hl.out, Nat.mul_one]
    case c2 => intro u hu; obtain ⟨z, _, rfl⟩ := List.mem_map.1 hu; rfl
    case c3 => unfold maxLen; omega
    case c4 => omega
    case c5 => simp
    intro v' w2 hown' hgrow _
    have B2 : Below w.heap.size w w2 := ((Below.refl _ w).alloc (Nat.le_refl _) _).grown hgrow (by simp) (fun j hj => (ho.lt j hj).1)
    clear hgrow hcells ho
    go_wp2
    go_ret
    refine ⟨_, rfl, ?_, B2⟩
    rw [hl.out]
    simpa using hown'

end Go.Proofs.YtnjihfbghaefoaaGreatDoor
/- The contracts of the disk's method Look and of New. -/
namespace Go.Proofs.YtnjihfbghaefoaaGreatDoor
open Go.RowKit Go.Wire1 Go.MuLone

section
variable (w : World) (b : Nat) (pv : Value) (l : List Int) (m E0 : Nat)

theorem look_own {w w2 : World} {b : Nat} {pv : Value} {l : List Int} {m E0 : Nat} {v : Value} {n : Nat} {xs : List Value} {u : Value} (h : Dsk 0 w b pv l m E0) (ho : w2.ownsRow (w.setCell ⟨b, 0, none⟩ (.int .i32 1)).heap.size 5 1 v n xs) : (w2.setCell ⟨b, 0, none⟩ u).ownsRow w.heap.size 5 1 v n xs := by
  have e : (w.setCell ⟨b, 0, none⟩ (.int .i32 1)).heap.size = w.heap.size := by simp [World.setCell]
  rw [e] at ho
  exact own_box ho (fun e2 => by have := (ho.lt b e2).1; have := h.box.lt; omega)

set_option maxHeartbeats 1000000 in
set_option maxRecDepth 100000 in
theorem look_any (h : Dsk 0 w b pv l m E0) :
    Calls Tryz.prog 18 #[.pointer (some ⟨b, 0, none⟩)] w fun r w' => ∃ v, r = .returned (.tuple #[v, .int .i64 (m : Int)]) ∧ w'.ownsRow w.heap.size 5 1 v l.length (l.map (Value.int .u8)) ∧ Below w.heap.size w w' := by
  obtain ⟨sa, cap, rfl, _, _, hs⟩ := seg_own h.own
  have c0 := h.box.cell 0 _ rfl
  have c2 := h.box.cell 2 _ rfl
  have c3 := h.box.cell 3 _ rfl
  have f0 := h.box.thaw 0
  have f2 := h.box.thaw 2
  have hnil : sa = none → l.length = 0 := fun e => by
    rcases h.own.2 with ⟨_, h0⟩ | ⟨g, cap', _, e2, _⟩
    · exact h0
    · rw [e] at e2; cases e2
  have ht := h.top
  have SG : Hid (Seg (w.setCell ⟨b, 0, none⟩ (.int .i32 1)) sa l.length l) := by
    obtain ⟨sa', cap', e, _, _, hs'⟩ := seg_own (h.lock 1).dsk.own
    cases e
    exact hs'
  have HK := hide h
  have HI : Hid (b < (w.setCell ⟨b, 0, none⟩ (.int .i32 1)).heap.size) := by have := h.box.lt; show b < _; simpa [World.setCell] using this
  have L0 : Hid ((w.setCell ⟨b, 0, none⟩ (.int .i32 1)).cell? ⟨b, 0, none⟩ = some (.int .i32 1)) := (h.lock 1).dsk.box.cell 0 _ rfl
  have HNL := hide hnil
  have e2 : (w.setCell ⟨b, 0, none⟩ (.int .i32 1)).cell? ⟨b, 2, none⟩ = some (.slice sa l.length cap) := (h.lock 1).dsk.box.cell 2 _ rfl
  have e3 : (w.setCell ⟨b, 0, none⟩ (.int .i32 1)).cell? ⟨b, 3, none⟩ = some (.int .i64 (m : Int)) := (h.lock 1).dsk.box.cell 3 _ rfl
  clear h hs hnil
  go_enter_defers Tryz.func18, Tryz.ntmps18
  go_wp2_with (go_at_call 39; refine (lock_free Tryz.muLib ⟨b, 0, none⟩ _ c0 f0).mono ?_; rintro e w' ⟨rfl, rfl⟩)
  go_region_held3 (fun w' => w'.cell? ⟨b, 2, none⟩ = some (.slice sa l.length cap) ∧ w'.cell? ⟨b, 3, none⟩ = some (.int .i64 (m : Int))) (first | exact ⟨e2, e3⟩ | go_keep | (refine ⟨?_, ?_⟩ <;> (rw [hb0.cell (by exact HI.out)]; assumption))) ((go_at_call 41; refine (dkclone_any sa l.length cap l _ (by exact SG.out) (by omega) (by exact HNL.out)).mono ?_; rintro e w2 ⟨v, rfl, hown, hb0⟩))
  have hb1 : Below w.heap.size (w.setCell ⟨b, 0, none⟩ (.int .i32 1)) w2 := ⟨hb0.os, hb0.tape, hb0.output, hb0.size, fun k hk => hb0.block k (by show k < (w.setCell ⟨b, 0, none⟩ (.int .i32 1)).heap.size; simpa [World.setCell] using hk)⟩
  have R := hide (HK.out.relock hb1)
  have OW := hide hown
  have L1 : Hid (w2.cell? ⟨b, 0, none⟩ = some (.int .i32 1)) := (hb1.cell (p := ⟨b, 0, none⟩) (by have := HK.out.box.lt; exact this)).trans L0.out
  have g0 : w2.frozen? ⟨b, 0, none⟩ = false := (hb1.frozen (p := ⟨b, 0, none⟩) (by have := HK.out.box.lt; exact this)).trans ((HK.out.lock 1).dsk.box.thaw 0)
  clear hown hb0 hb1 L0 SG e2 e3
  go_wp2
  refine leaves_cons (f := 40) (args := #[.pointer (some ⟨b, 0, none⟩)]) (by simp) (by simp [go_sem]) ?_
  refine (unlock_deferred Tryz.muLib ⟨b, 0, none⟩ .returning _ (by exact L1.out) (by simp [g0])).mono ?_
  rintro e u' w'' ⟨rfl, rfl, rfl⟩
  exact ⟨_, results_tmp2 rfl _ _ _, _, rfl, look_own HK.out OW.out, R.out⟩
end

theorem dsk_new (w : World) (T : TypeId) (E0 : Nat) (hE : E0 ≤ w.heap.size) : Dsk 0 (w.alloc (.cells #[.int .i32 0, .int .u32 0, .slice none 0 0, .int .i64 0] T)) w.heap.size (.slice none 0 0) [] 0 E0 :=
  ⟨blk_new w T [.int .i32 0, .int .u32 0, .slice none 0 0, .int .i64 0], World.ownsRow_nil _ _ _ _, (by intro e; cases e), Nat.le_refl _, Nat.zero_le _, hE, fun z hz => by cases hz⟩
set_option maxHeartbeats 1000000 in
set_option maxRecDepth 100000 in
theorem new_any (w : World) (E0 : Nat) (hE : E0 ≤ w.heap.size) :
    Calls Tryz.prog 29 #[] w fun r w' => r = .returned (.pointer (some ⟨w.heap.size, 0, none⟩)) ∧ Dsk 0 w' w.heap.size (.slice none 0 0) [] 0 E0 ∧ Below w.heap.size w w' ∧ w'.heap.size = w.heap.size + 1 := by
  have R := hide (dsk_new w 88 E0 hE)
  have B : Hid (Below w.heap.size w (w.alloc (.cells #[.int .i32 0, .int .u32 0, .slice none 0 0, .int .i64 0] 88))) := (Below.refl _ _).alloc (Nat.le_refl _) _
  go_enter Tryz.func29, Tryz.ntmps29
  go_wp2
  go_ret
  exact ⟨rfl, R.out, B.out, by simp⟩
end Go.Proofs.YtnjihfbghaefoaaGreatDoor
/- The plain mathematics of texts and ranges of keys: the order of texts, what a command touches, which two conflict; nothing of the program is named here. -/
namespace Go.Wire1
open Go.RowKit Go.Lib

/-- The order of texts. -/
def tlt (x y : ByteArray) : Bool := Op.bytesLess x.toList y.toList
def teq (x y : ByteArray) : Bool := x.toList == y.toList

/-- A range of keys: the first key in it, the first key behind it, may it be written. -/
structure Tch where
  k : ByteArray
  e : ByteArray
  w : Bool

def tzero : ByteArray := ⟨#[0]⟩
def tnext (k : ByteArray) : ByteArray := k ++ tzero
def touchL (kind : Int) (k k2 : ByteArray) : List Tch :=
  if kind = 1 then [⟨k, tnext k, false⟩]
  else if 2 ≤ kind ∧ kind ≤ 5 then [⟨k, tnext k, true⟩]
  else if kind = 6 then [⟨k, tnext k, true⟩, ⟨k2, tnext k2, true⟩]
  else if kind = 7 then [⟨k, tnext k, false⟩, ⟨k2, tnext k2, true⟩]
  else if kind = 8 then (if tlt k k2 then [⟨k, k2, false⟩] else [])
  else []

/-- The program's look: the higher one of the first keys is below the lower one of the ends. -/
def meetB (x y : Tch) : Bool := tlt (maxS x.k y.k) (minS x.e y.e)
def hitB (x y : Tch) : Bool := (x.w || y.w) && meetB x y
def clashB (L M : List Tch) : Bool := L.any fun x => M.any fun y => hitB x y

/-- Does the key lie in the range? -/
def inB (k : ByteArray) (t : Tch) : Bool := (tlt t.k k || teq t.k k) && tlt k t.e

def lastKey (kind : Int) (k k2 : ByteArray) : ByteArray := if kind = 6 ∨ kind = 7 then k2 else k
/-- What the statement's own look over the first keys finds. -/
def inAny (k : ByteArray) (L : List Tch) : Bool := L.any (inB k)
def inWr (k : ByteArray) (L : List Tch) : Bool := L.any fun t => inB k t && t.w
def foundB (L M : List Tch) (keys : List ByteArray) : Bool := keys.any fun k => inAny k L && inAny k M && (inWr k L || inWr k M)
end Go.Wire1
