/- Texts of the proof, joined. -/
import Derived.Test.YtlhididcanedhaaGreatDoorJ14
import Derived.Test.YtlhididcanedhaaGreatDoorJ09
import Derived.Test.YtlhididcanedhaaGreatDoorJ12
import Derived.Lib.AppendStr
import Derived.Lib.SliceRun
/- The contract of the scan's command. -/
namespace Go.Proofs.YtlhididcanedhaaGreatDoor
open Go.RowKit Go.Wire1

def sTail (v x : Int) (cl rq : Nat) (ky : ByteArray) (l : List Int) (s : St) : Cm × St :=
  if x = 6 ∨ x = 7 ∨ x = 8 then (⟨x, cl, rq, ky, (sKey2 x ky l s).1, ⟨#[]⟩, ⟨#[]⟩, 0⟩, (sKey2 x ky l s).2)
  else if x = 5 then (⟨x, cl, rq, ky, ⟨#[]⟩, (sTxt 0 (mostV v : Nat) 46 l (sTxt 0 (mostV v : Nat) 47 l s).2).1, (sTxt 0 (mostV v : Nat) 47 l s).1, 0⟩, (sTxt 0 (mostV v : Nat) 46 l (sTxt 0 (mostV v : Nat) 47 l s).2).2)
  else if x = 2 then (⟨x, cl, rq, ky, ⟨#[]⟩, (sTxt 0 (mostV v : Nat) 46 l s).1, ⟨#[]⟩, 0⟩, (sTxt 0 (mostV v : Nat) 46 l s).2)
  else if x = 4 then (⟨x, cl, rq, ky, ⟨#[]⟩, ⟨#[]⟩, ⟨#[]⟩, (sInt l s).1⟩, (sInt l s).2)
  else (⟨x, cl, rq, ky, ⟨#[]⟩, ⟨#[]⟩, ⟨#[]⟩, 0⟩, s)
def sAll (v x : Int) (l : List Int) (s : St) : Cm × St :=
  sTail v x (sNum 65535 42 l s).1 (sNum 1073741824 43 l (sNum 65535 42 l s).2).1 (sTxt 1 64 44 l (sNum 1073741824 43 l (sNum 65535 42 l s).2).2).1 l (sTxt 1 64 44 l (sNum 1073741824 43 l (sNum 65535 42 l s).2).2).2
/-- What a scan reads as a command. -/
def sCmd (v : Int) (l : List Int) (s : St) : Cm × St :=
  if (sKind v l s).2.ft = 0 ∧ (sKind v l s).1 ≠ 0 then sAll v (sKind v l s).1 l (sKind v l s).2
  else (⟨(sKind v l s).1, 0, 0, ⟨#[]⟩, ⟨#[]⟩, ⟨#[]⟩, ⟨#[]⟩, 0⟩, (sKind v l s).2)

theorem refF_ne (e ft : Int) (he : e ≠ 0) : refF e ft ≠ 0 := by
  unfold refF; split
  · exact he
  · assumption
theorem sKind_ok {v : Int} {l : List Int} {s : St} (h : (sKind v l s).2.ft = 0) : isKd v (sKind v l s).1 = true := by
  cases hk : isKd v (sKind v l s).1 with
  | true => rfl
  | false =>
    have : (sKind v l s).2.ft = refF 41 (noteF 41 (gB 255 l s).2.2 s.ft) := by
      show (if isKd v (sKind v l s).1 then _ else _) = _
      rw [hk]; rfl
    rw [this] at h
    exact absurd h (refF_ne _ _ (by decide))
theorem isKd_range {v k : Int} (h : isKd v k = true) : 0 ≤ k ∧ k < 9 := by
  unfold isKd at h
  simp only [Bool.and_eq_true, decide_eq_true_eq] at h
  exact ⟨h.1, h.2.1⟩

theorem command_scn (g b n cap : Nat) (sa : Option Addr) (l : List Int) (a : Nat → Addr) (v : Int) (s : St) (w : World) (hK : Knd w) (h : Scs w g b sa n cap l a s) :
    Calls Tryz.prog 124 #[.pointer (some ⟨g, 0, none⟩), .int .i64 v] w fun e w' => e = .returned (.agg #[.int .i64 (sCmd v l s).1.kind, .int .i64 (sCmd v l s).1.client, .int .i64 (sCmd v l s).1.req, .string (sCmd v l s).1.key, .string (sCmd v l s).1.key2, .string (sCmd v l s).1.val, .string (sCmd v l s).1.old, .int .i64 (sCmd v l s).1.n]) ∧ Turn g b w w' ∧ Scs w' g b sa n cap l a (sCmd v l s).2 := by
  obtain ⟨x, hx⟩ : ∃ x, (sKind v l s).1 = x := ⟨_, rfl⟩
  obtain ⟨s1, hs1⟩ : ∃ s1, (sKind v l s).2 = s1 := ⟨_, rfl⟩
  by_cases h0 : s1.ft = 0
  · by_cases hz : x = 0
    · subst hz
      have e : sCmd v l s = (⟨0, 0, 0, ⟨#[]⟩, ⟨#[]⟩, ⟨#[]⟩, ⟨#[]⟩, 0⟩, s1) := by unfold sCmd; rw [hx, hs1, if_neg (fun q => q.2 rfl)]
      rw [e]
      exact command_noop g b n cap sa l a v s w hK h s1 hx hs1 h0
    · have hr := isKd_range (sKind_ok (by rw [hs1]; exact h0))
      rw [hx] at hr
      have e : sCmd v l s = sAll v x l s1 := by unfold sCmd; rw [hx, hs1, if_pos ⟨h0, hz⟩]
      rw [e]
      have h8 : x = 1 ∨ x = 2 ∨ x = 3 ∨ x = 4 ∨ x = 5 ∨ x = 6 ∨ x = 7 ∨ x = 8 := by omega
      rcases h8 with rfl | rfl | rfl | rfl | rfl | rfl | rfl | rfl
      · exact command_leaf1 g b n cap sa l a v s w hK h s1 hx hs1 h0 _ _ rfl rfl _ _ rfl rfl _ _ rfl rfl
      · exact command_leaf2 g b n cap sa l a v s w hK h s1 hx hs1 h0 _ _ rfl rfl _ _ rfl rfl _ _ rfl rfl _ _ rfl rfl
      · exact command_leaf3 g b n cap sa l a v s w hK h s1 hx hs1 h0 _ _ rfl rfl _ _ rfl rfl _ _ rfl rfl
      · exact command_leaf4 g b n cap sa l a v s w hK h s1 hx hs1 h0 _ _ rfl rfl _ _ rfl rfl _ _ rfl rfl _ _ rfl rfl
      · exact command_leaf5 g b n cap sa l a v s w hK h s1 hx hs1 h0 _ _ rfl rfl _ _ rfl rfl _ _ rfl rfl _ _ rfl rfl _ _ rfl rfl
      · exact command_leaf6 g b n cap sa l a v s w hK h s1 hx hs1 h0 _ _ rfl rfl _ _ rfl rfl _ _ rfl rfl _ _ rfl rfl
      · exact command_leaf7 g b n cap sa l a v s w hK h s1 hx hs1 h0 _ _ rfl rfl _ _ rfl rfl _ _ rfl rfl _ _ rfl rfl
      · exact command_leaf8 g b n cap sa l a v s w hK h s1 hx hs1 h0 _ _ rfl rfl _ _ rfl rfl _ _ rfl rfl _ _ rfl rfl
  · have e : sCmd v l s = (⟨x, 0, 0, ⟨#[]⟩, ⟨#[]⟩, ⟨#[]⟩, ⟨#[]⟩, 0⟩, s1) := by unfold sCmd; rw [hx, hs1, if_neg (fun q => h0 q.1)]
    rw [e]
    exact command_early g b n cap sa l a v s w hK h x s1 hx hs1 h0
end Go.Proofs.YtlhididcanedhaaGreatDoor
/- The contracts of bytes.Clone and of NewReader. -/
namespace Go.Proofs.YtlhididcanedhaaGreatDoor
open Go.RowKit Go.Wire1 Go.Lib

set_option maxHeartbeats 1000000 in
set_option maxRecDepth 100000 in
theorem clone_any (sa : Option Addr) (n cap : Nat) (l : List Int) (w : World) (hs : Seg w sa n l) (hlen : n ≤ 140737488355328) (hnone : sa = none → n = 0) :
    Calls Tryz.prog 149 #[.slice sa n cap] w fun e w' => ∃ v, e = .returned v ∧ w'.ownsRow w.heap.size 5 1 v l.length (l.map (Value.int .u8)) ∧ Below w.heap.size w w' := by
  obtain ⟨i0, hi, hz0, hz1, hz2⟩ := info_parts Tryz.info5
  have qn : ∀ (w : World) (a : Option Addr) (n c n' c' : Nat), (binOp .eql 31 (.slice a n c) (.slice none n' c')).run Tryz.prog w = .ok (.bool a.isNone) w := fun w a n c n' c' => Lib.run_eql_slice_nil w _ _ a n c n' c' Tryz.underlying31
  cases sa with
  | none =>
    obtain rfl := hnone rfl
    obtain rfl : l = [] := List.eq_nil_of_length_eq_zero hs.1
    go_enter Tryz.func149, Tryz.ntmps149
    go_wp2
    go_ret
    exact ⟨_, rfl, World.ownsRow_nil _ _ _ _, Below.refl _ _⟩
  | some ad =>
    have hl := hide hs.1
    have ho : (w.alloc (.cells #[] 5)).ownsRow w.heap.size 5 1 (.slice (some ⟨w.heap.size, 0, none⟩) 0 0) 0 [] := World.ownsRow_made w #[] 0 (Nat.le_refl _) (by unfold maxLen; omega) rfl
    have hcells : ∀ j u, (l.map (Value.int .u8))[j]? = some u → (w.alloc (.cells #[] 5)).cell? (ad.add j) = some u := fun j u hj => by
      have hjl : j < l.length := by
        rcases Nat.lt_or_ge j l.length with h | h
        · exact h
        · simp [List.getElem?_eq_none (show (l.map (Value.int .u8)).length ≤ j by simpa using h)] at hj
      obtain ⟨b, off, e, hc⟩ := hs.2.2 (by rw [← hs.1]; omega)
      cases e
      have hcj := hc j (by rw [← hs.1]; exact hjl)
      rw [add_at, World.cell?_alloc_past _ _ _ (cell_lt hcj), hcj]
      simp [List.getElem?_eq_getElem hjl] at hj
      subst hj
      simp [List.getElem?_eq_getElem hjl]
    go_enter Tryz.func149, Tryz.ntmps149
    go_wp2_with (first
      | (at_builtin; refine wpList_append_own _ rfl _ _ 31 rfl w.heap.size 5 i0 (.int .u8 0) 1 1 Tryz.underlying31 hi hz0 hz1 hz2 rfl (by decide) _ _ _ rfl ho ad n cap (l.map (Value.int .u8)) rfl ?c0 hcells ?c2 ?c3 ?c4 ?c5 ?_))
    case c0 => rw [List.length_map, hl.out, Nat.mul_one]
    case c2 => intro u hu; obtain ⟨z, _, rfl⟩ := List.mem_map.1 hu; rfl
    case c3 => unfold maxLen; omega
    case c4 => omega
    case c5 => simp
    intro v' w2 hown' hgrow _
    have B2 : Below w.heap.size w w2 := ((Below.refl _ w).alloc (Nat.le_refl _) _).grown hgrow (by simp) (fun j hj => (ho.lt j hj).1)
    clear hgrow hcells ho
    go_wp2
    go_ret
    refine ⟨_, rfl, ?_, B2⟩
    rw [hl.out]
    simpa using hown'

/-- What a new reader is. -/
theorem rdr_new {w w1 : World} {v : Value} {l : List Int} {a : Nat → Addr} (T : TypeId) (hown : w1.ownsRow w.heap.size 5 1 v l.length (l.map (Value.int .u8))) (hbel : Below w.heap.size w w1) (he : Errs w a) (hy : Byt l) :
    ∃ sa cap, v = .slice sa l.length cap ∧ Rdr (w1.alloc (.cells #[v, .int .i64 0, .int .i64 0] T)) w1.heap.size sa l.length cap 0 0 l a := by
  obtain ⟨sa, cap, rfl, hc, hm, hs⟩ := seg_own hown
  have hA : Below w1.heap.size w1 (w1.alloc (.cells #[.slice sa l.length cap, .int .i64 0, .int .i64 0] T)) := (Below.refl _ _).alloc (Nat.le_refl _) _
  have he1 := he.below hbel (Nat.le_refl _)
  refine ⟨sa, cap, rfl, ⟨⟨⟨?_, ?_, ?_⟩, hs.below hA (Nat.le_refl _), fun x hx hn => by have := hs.lt hn hx; omega, hy, Nat.zero_le _, he1.below hA (Nat.le_refl _), by have := he1.five; omega, fun i hi => by have := he1.lt i hi; omega⟩, ?_, ?_, hc, hm⟩⟩
  · rw [World.cell?_alloc_at _ _ _ _ rfl]; rfl
  · rw [World.cell?_alloc_at _ _ _ _ rfl]; rfl
  · exact World.frozen?_alloc_at _ _ _ _ rfl
  · rw [World.cell?_alloc_at _ _ _ _ rfl]; rfl
  · exact World.frozen?_alloc_at _ _ _ _ rfl

set_option maxHeartbeats 1000000 in
set_option maxRecDepth 100000 in
theorem newReader_any (sa : Option Addr) (n cap : Nat) (l : List Int) (a : Nat → Addr) (w : World) (hs : Seg w sa n l) (hy : Byt l) (he : Errs w a) (hlen : n ≤ 140737488355328) (hnone : sa = none → n = 0) :
    Calls Tryz.prog 123 #[.slice sa n cap] w fun e w' => ∃ b sa' cap', e = .returned (.pointer (some ⟨b, 0, none⟩)) ∧ w.heap.size ≤ b ∧ Below w.heap.size w w' ∧ Rdr w' b sa' l.length cap' 0 0 l a ∧ (∀ x, sa' = some x → 0 < l.length → w.heap.size ≤ x.block) := by
  go_enter Tryz.func123, Tryz.ntmps123
  go_wp2_with fail
  refine (clone_any sa n cap l _ hs hlen hnone).mono ?_
  rintro e w1 ⟨v, rfl, hown, hbel⟩
  have hlow : ∀ x, v = .slice (some x) l.length x.off → True := fun _ _ => trivial
  clear hlow
  obtain ⟨sa', cap', rfl, hR⟩ := rdr_new 172 hown hbel he hy
  have hbase : ∀ x, sa' = some x → 0 < l.length → w.heap.size ≤ x.block := fun x hx _ => by
    subst hx; exact (hown.lt x.block rfl).1
  have B2 : Below w.heap.size w (w1.alloc (.cells #[.slice sa' l.length cap', .int .i64 0, .int .i64 0] 172)) := hbel.alloc hbel.size _
  have hsz := hbel.size
  clear hown hbel
  go_wp2
  go_ret
  exact ⟨_, _, _, rfl, hsz, B2, hR, hbase⟩
end Go.Proofs.YtlhididcanedhaaGreatDoor
