/- The contracts of the document's own one, in, Touches. -/
import Derived.Test.YtahaecnopeffhaaTConf
import Derived.Laws.BytesArg
namespace Go.Proofs.Ytahaecnopeffhaa
open Go.RowKit Go.Wire1

theorem Try.infoT : (Try.prog.info? 31).map (fun i => (i.zero, i.size, i.bytes)) = some (some (.agg #[.string ⟨#[]⟩, .string ⟨#[]⟩, .bool false]), 3, 40) := by kernel_rfl

set_option maxHeartbeats 400000 in
set_option maxRecDepth 100000 in
theorem rone_any (k : ByteArray) (b : Bool) (w : World) (hk : k.size ≤ 140737488351232) :
    Calls Try.prog 18 #[.string k, .bool b] w fun e w' => e = .returned (.agg #[.string k, .string (tnext k), .bool b]) ∧ Below w.heap.size w w' := by
  have hadd : ∀ V : World, (Op.stringOp .add k ⟨#[0]⟩).run Try.prog V = .ok (.string (k ++ ⟨#[0]⟩)) V := fun V => run_string_add_sum V k _ (by show k.size + 1 ≤ _; omega)
  have hcv : (convert 40 9 (.slice (some ⟨w.heap.size + 1, 0, none⟩) 1 1)).run Try.prog ((w.alloc (.cells #[.string ⟨#[]⟩, .string ⟨#[]⟩, .bool false] 31)).alloc (.cells #[.int .u8 0] 5)) = .ok (.string ⟨#[0]⟩) ((w.alloc (.cells #[.string ⟨#[]⟩, .string ⟨#[]⟩, .bool false] 31)).alloc (.cells #[.int .u8 0] 5)) := by
    refine (run_convert_bytes_arg (P := Try.prog) _ 40 5 Try.underlying40 Try.underlying5 (w.heap.size + 1) 0 1 1 [0] rfl ?_ 9 Try.underlying9).trans rfl
    intro j hj
    obtain rfl : j = 0 := by omega
    simp [go_sem]
  go_enter Try.func18, Try.ntmps18
  go_wp2
  refine bodyPost_ret (v := .agg #[.string k, .string (tnext k), .bool b]) (by simp [results, Try.results18, go_sem]; rfl) rfl ⟨rfl, ?_⟩
  exact ((Below.refl _ _).alloc (Nat.le_refl _) _).alloc (by simp) _

set_option maxHeartbeats 400000 in
set_option maxRecDepth 100000 in
theorem rin_any (k : ByteArray) (t : Tch) (w : World) :
    Calls Try.prog 19 #[.string k, .agg #[.string t.k, .string t.e, .bool t.w]] w fun e w' => e = .returned (.bool (inB k t)) ∧ Below w.heap.size w w' := by
  cases h1 : (Op.bytesLess t.k.toList k.toList || t.k.toList == k.toList) with
  | true =>
    have HR : Hid (inB k t = Op.bytesLess k.toList t.e.toList) := by
      unfold inB tlt teq
      rw [h1]; exact Bool.true_and _
    go_enter Try.func19, Try.ntmps19
    go_wp2
    go_ret
    exact ⟨by rw [HR.out]; rfl, (Below.refl _ _).alloc (Nat.le_refl _) _⟩
  | false =>
    have HR : Hid (inB k t = false) := by
      unfold inB tlt teq
      rw [h1]; rfl
    go_enter Try.func19, Try.ntmps19
    go_wp2
    go_ret
    exact ⟨by rw [HR.out]; rfl, (Below.refl _ _).alloc (Nat.le_refl _) _⟩

theorem Tchs.push {B : Nat} {w wr w1 : World} {v v' : Value} {L : List Tch} {t : Tch} {m : Nat} (hm : L.length = m) (hB : B ≤ wr.heap.size) (h : Tchs wr B v L) (hb : Below B w wr) (h' : w1.ownsRow B 31 3 v' (m + 1) (L.flatMap tcells ++ [.string t.k, .string t.e, .bool t.w])) (hg : wr.grownBy w1 v.ownBlock) : Tchs w1 B v' (L ++ [t]) ∧ Below B w w1 :=
  ⟨by unfold Tchs; subst hm; simpa [tcells] using h', hb.grown hg hB (fun j hj => (World.ownsRow.lt h j hj).1)⟩

set_option maxHeartbeats 2000000 in
set_option maxRecDepth 100000 in
theorem rtouches_any (kind client req : Int) (key key2 val old : ByteArray) (n : Int) (w : World) (hk : key.size ≤ 140737488351232) (hk2 : key2.size ≤ 140737488351232) :
    Calls Try.prog 12 #[.agg #[.int .i64 kind, .int .i64 client, .int .i64 req, .string key, .string key2, .string val, .string old, .int .i64 n]] w fun e w' => ∃ v, e = .returned v ∧ Tchs w' w.heap.size v (touchL kind key key2) ∧ Below w.heap.size w w' := by
  obtain ⟨i0, hi, hz0, hz1, hz2⟩ := info_parts Try.infoT
  by_cases h1 : kind = 1
  · subst h1
    go_enter Try.func12, Try.ntmps12
    go_wp2_with fail
    refine (rone_any key false _ hk).mono ?_
    rintro e w1 ⟨rfl, hb⟩
    have hs := hb.size
    have hle : w.heap.size ≤ w1.heap.size := by simp at hs; omega
    have B1 : Hid (Below w.heap.size w w1) := ((Below.refl _ _).alloc (Nat.le_refl _) _).trans (hb.mono (by simp))
    clear hb hs
    go_wp2_with (first
      | (at_builtin; refine wpList_append_own _ rfl _ _ 27 rfl w.heap.size 31 i0 (.agg #[.string ⟨#[]⟩, .string ⟨#[]⟩, .bool false]) 3 40 Try.underlying27 hi hz0 hz1 hz2 rfl (by decide) _ _ _ rfl (World.ownsRow_nil _ _ _ _) ⟨w1.heap.size, 0, none⟩ 1 1 [.string key, .string (tnext key), .bool false] rfl rfl ?c1 ?c2 ?c3 ?c4 ?c5 ?_))
    case c1 =>
      intro j u hj
      match j, hj with
      | 0, hj => simp at hj; subst hj; simp [Addr.add, go_sem]
      | 1, hj => simp at hj; subst hj; simp [Addr.add, go_sem]
      | 2, hj => simp at hj; subst hj; simp [Addr.add, go_sem]
    case c2 => intro u hu; simp at hu; rcases hu with rfl | rfl | rfl <;> rfl
    case c3 => unfold maxLen; first | omega | (simp only [List.length_singleton]; omega)
    case c4 => first | omega | (simp only [List.length_singleton]; omega)
    case c5 => simp; omega
    intro v' w2 hown hg _
    have R := Tchs.push (t := ⟨key, tnext key, false⟩) (L := []) rfl (by simp; omega) (World.ownsRow_nil _ _ _ _) (B1.out.alloc hle _) hown hg
    clear hown hg
    go_wp2
    go_ret
    exact ⟨_, rfl, R⟩
  by_cases h2 : kind = 2
  · subst h2
    go_enter Try.func12, Try.ntmps12
    go_wp2_with fail
    refine (rone_any key true _ hk).mono ?_
    rintro e w1 ⟨rfl, hb⟩
    have hs := hb.size
    have hle : w.heap.size ≤ w1.heap.size := by simp at hs; omega
    have B1 : Hid (Below w.heap.size w w1) := ((Below.refl _ _).alloc (Nat.le_refl _) _).trans (hb.mono (by simp))
    clear hb hs
    go_wp2_with (first
      | (at_builtin; refine wpList_append_own _ rfl _ _ 27 rfl w.heap.size 31 i0 (.agg #[.string ⟨#[]⟩, .string ⟨#[]⟩, .bool false]) 3 40 Try.underlying27 hi hz0 hz1 hz2 rfl (by decide) _ _ _ rfl (World.ownsRow_nil _ _ _ _) ⟨w1.heap.size, 0, none⟩ 1 1 [.string key, .string (tnext key), .bool true] rfl rfl ?c1 ?c2 ?c3 ?c4 ?c5 ?_))
    case c1 =>
      intro j u hj
      match j, hj with
      | 0, hj => simp at hj; subst hj; simp [Addr.add, go_sem]
      | 1, hj => simp at hj; subst hj; simp [Addr.add, go_sem]
      | 2, hj => simp at hj; subst hj; simp [Addr.add, go_sem]
    case c2 => intro u hu; simp at hu; rcases hu with rfl | rfl | rfl <;> rfl
    case c3 => unfold maxLen; first | omega | (simp only [List.length_singleton]; omega)
    case c4 => first | omega | (simp only [List.length_singleton]; omega)
    case c5 => simp; omega
    intro v' w2 hown hg _
    have R := Tchs.push (t := ⟨key, tnext key, true⟩) (L := []) rfl (by simp; omega) (World.ownsRow_nil _ _ _ _) (B1.out.alloc hle _) hown hg
    clear hown hg
    go_wp2
    go_ret
    exact ⟨_, rfl, R⟩
  by_cases h3 : kind = 3
  · subst h3
    go_enter Try.func12, Try.ntmps12
    go_wp2_with fail
    refine (rone_any key true _ hk).mono ?_
    rintro e w1 ⟨rfl, hb⟩
    have hs := hb.size
    have hle : w.heap.size ≤ w1.heap.size := by simp at hs; omega
    have B1 : Hid (Below w.heap.size w w1) := ((Below.refl _ _).alloc (Nat.le_refl _) _).trans (hb.mono (by simp))
    clear hb hs
    go_wp2_with (first
      | (at_builtin; refine wpList_append_own _ rfl _ _ 27 rfl w.heap.size 31 i0 (.agg #[.string ⟨#[]⟩, .string ⟨#[]⟩, .bool false]) 3 40 Try.underlying27 hi hz0 hz1 hz2 rfl (by decide) _ _ _ rfl (World.ownsRow_nil _ _ _ _) ⟨w1.heap.size, 0, none⟩ 1 1 [.string key, .string (tnext key), .bool true] rfl rfl ?c1 ?c2 ?c3 ?c4 ?c5 ?_))
    case c1 =>
      intro j u hj
      match j, hj with
      | 0, hj => simp at hj; subst hj; simp [Addr.add, go_sem]
      | 1, hj => simp at hj; subst hj; simp [Addr.add, go_sem]
      | 2, hj => simp at hj; subst hj; simp [Addr.add, go_sem]
    case c2 => intro u hu; simp at hu; rcases hu with rfl | rfl | rfl <;> rfl
    case c3 => unfold maxLen; first | omega | (simp only [List.length_singleton]; omega)
    case c4 => first | omega | (simp only [List.length_singleton]; omega)
    case c5 => simp; omega
    intro v' w2 hown hg _
    have R := Tchs.push (t := ⟨key, tnext key, true⟩) (L := []) rfl (by simp; omega) (World.ownsRow_nil _ _ _ _) (B1.out.alloc hle _) hown hg
    clear hown hg
    go_wp2
    go_ret
    exact ⟨_, rfl, R⟩
  by_cases h4 : kind = 4
  · subst h4
    go_enter Try.func12, Try.ntmps12
    go_wp2_with fail
    refine (rone_any key true _ hk).mono ?_
    rintro e w1 ⟨rfl, hb⟩
    have hs := hb.size
    have hle : w.heap.size ≤ w1.heap.size := by simp at hs; omega
    have B1 : Hid (Below w.heap.size w w1) := ((Below.refl _ _).alloc (Nat.le_refl _) _).trans (hb.mono (by simp))
    clear hb hs
    go_wp2_with (first
      | (at_builtin; refine wpList_append_own _ rfl _ _ 27 rfl w.heap.size 31 i0 (.agg #[.string ⟨#[]⟩, .string ⟨#[]⟩, .bool false]) 3 40 Try.underlying27 hi hz0 hz1 hz2 rfl (by decide) _ _ _ rfl (World.ownsRow_nil _ _ _ _) ⟨w1.heap.size, 0, none⟩ 1 1 [.string key, .string (tnext key), .bool true] rfl rfl ?c1 ?c2 ?c3 ?c4 ?c5 ?_))
    case c1 =>
      intro j u hj
      match j, hj with
      | 0, hj => simp at hj; subst hj; simp [Addr.add, go_sem]
      | 1, hj => simp at hj; subst hj; simp [Addr.add, go_sem]
      | 2, hj => simp at hj; subst hj; simp [Addr.add, go_sem]
    case c2 => intro u hu; simp at hu; rcases hu with rfl | rfl | rfl <;> rfl
    case c3 => unfold maxLen; first | omega | (simp only [List.length_singleton]; omega)
    case c4 => first | omega | (simp only [List.length_singleton]; omega)
    case c5 => simp; omega
    intro v' w2 hown hg _
    have R := Tchs.push (t := ⟨key, tnext key, true⟩) (L := []) rfl (by simp; omega) (World.ownsRow_nil _ _ _ _) (B1.out.alloc hle _) hown hg
    clear hown hg
    go_wp2
    go_ret
    exact ⟨_, rfl, R⟩
  by_cases h5 : kind = 5
  · subst h5
    go_enter Try.func12, Try.ntmps12
    go_wp2_with fail
    refine (rone_any key true _ hk).mono ?_
    rintro e w1 ⟨rfl, hb⟩
    have hs := hb.size
    have hle : w.heap.size ≤ w1.heap.size := by simp at hs; omega
    have B1 : Hid (Below w.heap.size w w1) := ((Below.refl _ _).alloc (Nat.le_refl _) _).trans (hb.mono (by simp))
    clear hb hs
    go_wp2_with (first
      | (at_builtin; refine wpList_append_own _ rfl _ _ 27 rfl w.heap.size 31 i0 (.agg #[.string ⟨#[]⟩, .string ⟨#[]⟩, .bool false]) 3 40 Try.underlying27 hi hz0 hz1 hz2 rfl (by decide) _ _ _ rfl (World.ownsRow_nil _ _ _ _) ⟨w1.heap.size, 0, none⟩ 1 1 [.string key, .string (tnext key), .bool true] rfl rfl ?c1 ?c2 ?c3 ?c4 ?c5 ?_))
    case c1 =>
      intro j u hj
      match j, hj with
      | 0, hj => simp at hj; subst hj; simp [Addr.add, go_sem]
      | 1, hj => simp at hj; subst hj; simp [Addr.add, go_sem]
      | 2, hj => simp at hj; subst hj; simp [Addr.add, go_sem]
    case c2 => intro u hu; simp at hu; rcases hu with rfl | rfl | rfl <;> rfl
    case c3 => unfold maxLen; first | omega | (simp only [List.length_singleton]; omega)
    case c4 => first | omega | (simp only [List.length_singleton]; omega)
    case c5 => simp; omega
    intro v' w2 hown hg _
    have R := Tchs.push (t := ⟨key, tnext key, true⟩) (L := []) rfl (by simp; omega) (World.ownsRow_nil _ _ _ _) (B1.out.alloc hle _) hown hg
    clear hown hg
    go_wp2
    go_ret
    exact ⟨_, rfl, R⟩
  by_cases h6 : kind = 6
  · subst h6
    obtain ⟨V, hV⟩ : ∃ V, V = w.alloc (.cells #[.int .i64 6, .int .i64 client, .int .i64 req, .string key, .string key2, .string val, .string old, .int .i64 n] 23) := ⟨_, rfl⟩
    have X : Hid (CBox V w.heap.size 6 client req key key2 val old n) := by rw [hV]; exact cbox_new w 23 _ _ _ _ _ _ _ _
    have hVs : V.heap.size = w.heap.size + 1 := by rw [hV]; simp
    have BV : Hid (Below w.heap.size w V) := by rw [hV]; exact (Below.refl _ _).alloc (Nat.le_refl _) _
    go_enter Try.func12, Try.ntmps12
    go_wp2_with fail
    rw [← hV]
    refine (rone_any key true _ hk).mono ?_
    rintro e w1 ⟨rfl, hb⟩
    have hs := hb.size
    have hle : w.heap.size ≤ w1.heap.size := by omega
    have B1 : Hid (Below w.heap.size w w1) := BV.out.trans (hb.mono (by omega))
    have X1 : Hid (CBox w1 w.heap.size 6 client req key key2 val old n) := X.out.below hb (Nat.le_refl _)
    clear hb hs hV X
    go_wp2_with (first
      | (at_builtin; refine wpList_append_own _ rfl _ _ 27 rfl w.heap.size 31 i0 (.agg #[.string ⟨#[]⟩, .string ⟨#[]⟩, .bool false]) 3 40 Try.underlying27 hi hz0 hz1 hz2 rfl (by decide) _ _ _ rfl (World.ownsRow_nil _ _ _ _) ⟨w1.heap.size, 0, none⟩ 1 1 [.string key, .string (tnext key), .bool true] rfl rfl ?c1 ?c2 ?c3 ?c4 ?c5 ?_))
    case c1 =>
      intro j u hj
      match j, hj with
      | 0, hj => simp at hj; subst hj; simp [Addr.add, go_sem]
      | 1, hj => simp at hj; subst hj; simp [Addr.add, go_sem]
      | 2, hj => simp at hj; subst hj; simp [Addr.add, go_sem]
    case c2 => intro u hu; simp at hu; rcases hu with rfl | rfl | rfl <;> rfl
    case c3 => unfold maxLen; first | omega | (simp only [List.length_singleton]; omega)
    case c4 => first | omega | (simp only [List.length_singleton]; omega)
    case c5 => simp; omega
    intro v2 w2 hown hg _
    have X2 : Hid (CBox w2 w.heap.size 6 client req key key2 val old n) := by
      have hX := X1.out.below ((Below.refl w1.heap.size w1).alloc (Nat.le_refl _) (.cells #[.string key, .string (tnext key), .bool true] 31)) (Nat.le_refl _)
      exact hX.below ((Below.refl _ _).grown hg (Nat.le_refl _) (fun j hj => by simp [Value.ownBlock] at hj)) (Nat.le_refl _)
    have R := Tchs.push (t := ⟨key, tnext key, true⟩) (L := []) rfl (by simp; omega) (World.ownsRow_nil _ _ _ _) (B1.out.alloc hle _) hown hg
    have hle2 : w.heap.size ≤ w2.heap.size := R.2.size
    have T2 : Hid (Tchs w2 w.heap.size v2 [⟨key, tnext key, true⟩]) := R.1
    have B2 : Hid (Below w.heap.size w w2) := R.2
    obtain ⟨x0, x1, x2, x3, x4, x5, x6, x7⟩ := X2.out
    clear hown hg R X1
    go_wp2_with fail
    refine (rone_any key2 true _ hk2).mono ?_
    rintro e w3 ⟨rfl, hb3⟩
    have hle3 : w.heap.size ≤ w3.heap.size := by have := hb3.size; omega
    have T3 : Hid (Tchs w3 w.heap.size v2 [⟨key, tnext key, true⟩]) := T2.out.below hb3 (Nat.le_refl _)
    have B3 : Hid (Below w.heap.size w w3) := B2.out.trans (hb3.mono hle2)
    clear hb3 T2 B2 x0 x1 x2 x3 x4 x5 x6 x7 X2
    go_wp2_with (first
      | (at_builtin; refine wpList_append_own _ rfl _ _ 27 rfl w.heap.size 31 i0 (.agg #[.string ⟨#[]⟩, .string ⟨#[]⟩, .bool false]) 3 40 Try.underlying27 hi hz0 hz1 hz2 rfl (by decide) _ _ _ rfl (World.ownsRow.alloc T3.out _) ⟨w3.heap.size, 0, none⟩ 1 1 [.string key2, .string (tnext key2), .bool true] rfl rfl ?d1 ?d2 ?d3 ?d4 ?d5 ?_))
    case d1 =>
      intro j u hj
      match j, hj with
      | 0, hj => simp at hj; subst hj; simp [Addr.add, go_sem]
      | 1, hj => simp at hj; subst hj; simp [Addr.add, go_sem]
      | 2, hj => simp at hj; subst hj; simp [Addr.add, go_sem]
    case d2 => intro u hu; simp at hu; rcases hu with rfl | rfl | rfl <;> rfl
    case d3 => unfold maxLen; first | omega | (simp only [List.length_singleton]; omega)
    case d4 => first | omega | (simp only [List.length_singleton]; omega)
    case d5 => simp; omega
    intro v4 w4 hown hg _
    have R := Tchs.push (t := ⟨key2, tnext key2, true⟩) (L := [⟨key, tnext key, true⟩]) rfl (by simp; omega) (World.ownsRow.alloc T3.out _) (B3.out.alloc hle3 _) hown hg
    clear hown hg
    go_wp2
    go_ret
    exact ⟨_, rfl, R⟩
  by_cases h7 : kind = 7
  · subst h7
    obtain ⟨V, hV⟩ : ∃ V, V = w.alloc (.cells #[.int .i64 7, .int .i64 client, .int .i64 req, .string key, .string key2, .string val, .string old, .int .i64 n] 23) := ⟨_, rfl⟩
    have X : Hid (CBox V w.heap.size 7 client req key key2 val old n) := by rw [hV]; exact cbox_new w 23 _ _ _ _ _ _ _ _
    have hVs : V.heap.size = w.heap.size + 1 := by rw [hV]; simp
    have BV : Hid (Below w.heap.size w V) := by rw [hV]; exact (Below.refl _ _).alloc (Nat.le_refl _) _
    go_enter Try.func12, Try.ntmps12
    go_wp2_with fail
    rw [← hV]
    refine (rone_any key false _ hk).mono ?_
    rintro e w1 ⟨rfl, hb⟩
    have hs := hb.size
    have hle : w.heap.size ≤ w1.heap.size := by omega
    have B1 : Hid (Below w.heap.size w w1) := BV.out.trans (hb.mono (by omega))
    have X1 : Hid (CBox w1 w.heap.size 7 client req key key2 val old n) := X.out.below hb (Nat.le_refl _)
    clear hb hs hV X
    go_wp2_with (first
      | (at_builtin; refine wpList_append_own _ rfl _ _ 27 rfl w.heap.size 31 i0 (.agg #[.string ⟨#[]⟩, .string ⟨#[]⟩, .bool false]) 3 40 Try.underlying27 hi hz0 hz1 hz2 rfl (by decide) _ _ _ rfl (World.ownsRow_nil _ _ _ _) ⟨w1.heap.size, 0, none⟩ 1 1 [.string key, .string (tnext key), .bool false] rfl rfl ?c1 ?c2 ?c3 ?c4 ?c5 ?_))
    case c1 =>
      intro j u hj
      match j, hj with
      | 0, hj => simp at hj; subst hj; simp [Addr.add, go_sem]
      | 1, hj => simp at hj; subst hj; simp [Addr.add, go_sem]
      | 2, hj => simp at hj; subst hj; simp [Addr.add, go_sem]
    case c2 => intro u hu; simp at hu; rcases hu with rfl | rfl | rfl <;> rfl
    case c3 => unfold maxLen; first | omega | (simp only [List.length_singleton]; omega)
    case c4 => first | omega | (simp only [List.length_singleton]; omega)
    case c5 => simp; omega
    intro v2 w2 hown hg _
    have X2 : Hid (CBox w2 w.heap.size 7 client req key key2 val old n) := by
      have hX := X1.out.below ((Below.refl w1.heap.size w1).alloc (Nat.le_refl _) (.cells #[.string key, .string (tnext key), .bool false] 31)) (Nat.le_refl _)
      exact hX.below ((Below.refl _ _).grown hg (Nat.le_refl _) (fun j hj => by simp [Value.ownBlock] at hj)) (Nat.le_refl _)
    have R := Tchs.push (t := ⟨key, tnext key, false⟩) (L := []) rfl (by simp; omega) (World.ownsRow_nil _ _ _ _) (B1.out.alloc hle _) hown hg
    have hle2 : w.heap.size ≤ w2.heap.size := R.2.size
    have T2 : Hid (Tchs w2 w.heap.size v2 [⟨key, tnext key, false⟩]) := R.1
    have B2 : Hid (Below w.heap.size w w2) := R.2
    obtain ⟨x0, x1, x2, x3, x4, x5, x6, x7⟩ := X2.out
    clear hown hg R X1
    go_wp2_with fail
    refine (rone_any key2 true _ hk2).mono ?_
    rintro e w3 ⟨rfl, hb3⟩
    have hle3 : w.heap.size ≤ w3.heap.size := by have := hb3.size; omega
    have T3 : Hid (Tchs w3 w.heap.size v2 [⟨key, tnext key, false⟩]) := T2.out.below hb3 (Nat.le_refl _)
    have B3 : Hid (Below w.heap.size w w3) := B2.out.trans (hb3.mono hle2)
    clear hb3 T2 B2 x0 x1 x2 x3 x4 x5 x6 x7 X2
    go_wp2_with (first
      | (at_builtin; refine wpList_append_own _ rfl _ _ 27 rfl w.heap.size 31 i0 (.agg #[.string ⟨#[]⟩, .string ⟨#[]⟩, .bool false]) 3 40 Try.underlying27 hi hz0 hz1 hz2 rfl (by decide) _ _ _ rfl (World.ownsRow.alloc T3.out _) ⟨w3.heap.size, 0, none⟩ 1 1 [.string key2, .string (tnext key2), .bool true] rfl rfl ?d1 ?d2 ?d3 ?d4 ?d5 ?_))
    case d1 =>
      intro j u hj
      match j, hj with
      | 0, hj => simp at hj; subst hj; simp [Addr.add, go_sem]
      | 1, hj => simp at hj; subst hj; simp [Addr.add, go_sem]
      | 2, hj => simp at hj; subst hj; simp [Addr.add, go_sem]
    case d2 => intro u hu; simp at hu; rcases hu with rfl | rfl | rfl <;> rfl
    case d3 => unfold maxLen; first | omega | (simp only [List.length_singleton]; omega)
    case d4 => first | omega | (simp only [List.length_singleton]; omega)
    case d5 => simp; omega
    intro v4 w4 hown hg _
    have R := Tchs.push (t := ⟨key2, tnext key2, true⟩) (L := [⟨key, tnext key, false⟩]) rfl (by simp; omega) (World.ownsRow.alloc T3.out _) (B3.out.alloc hle3 _) hown hg
    clear hown hg
    go_wp2
    go_ret
    exact ⟨_, rfl, R⟩
  by_cases h8 : kind = 8
  · subst h8
    cases hlt : Op.bytesLess key.toList key2.toList with
    | true =>
      have e : Hid (touchL 8 key key2 = [⟨key, key2, false⟩]) := by simp [Hid, touchL, tlt, hlt]
      rw [e.out]
      go_enter Try.func12, Try.ntmps12
      go_wp2_with (first
        | (at_builtin; refine wpList_append_own _ rfl _ _ 27 rfl w.heap.size 31 i0 (.agg #[.string ⟨#[]⟩, .string ⟨#[]⟩, .bool false]) 3 40 Try.underlying27 hi hz0 hz1 hz2 rfl (by decide) _ _ _ rfl (World.ownsRow_nil _ _ _ _) ⟨w.heap.size + 1, 0, none⟩ 1 1 [.string key, .string key2, .bool false] rfl rfl ?c1 ?c2 ?c3 ?c4 ?c5 ?_))
      case c1 =>
        intro j u hj
        match j, hj with
        | 0, hj => simp at hj; subst hj; simp [Addr.add, go_sem]
        | 1, hj => simp at hj; subst hj; simp [Addr.add, go_sem]
        | 2, hj => simp at hj; subst hj; simp [Addr.add, go_sem]
      case c2 => intro u hu; simp at hu; rcases hu with rfl | rfl | rfl <;> rfl
      case c3 => unfold maxLen; first | omega | (simp only [List.length_singleton]; omega)
      case c4 => first | omega | (simp only [List.length_singleton]; omega)
      case c5 => simp; omega
      intro v' w2 hown hg _
      have R := Tchs.push (t := ⟨key, key2, false⟩) (L := []) rfl (by simp; omega) (World.ownsRow_nil _ _ _ _) (((Below.refl _ _).alloc (Nat.le_refl _) _).alloc (by simp) _) hown hg
      clear hown hg
      go_wp2
      go_ret
      exact ⟨_, rfl, R⟩
    | false =>
      have e : Hid (touchL 8 key key2 = []) := by simp [Hid, touchL, tlt, hlt]
      rw [e.out]
      go_enter Try.func12, Try.ntmps12
      go_wp2
      go_ret
      exact ⟨_, rfl, World.ownsRow_nil _ _ _ _, (Below.refl _ _).alloc (Nat.le_refl _) _⟩
  · have e : touchL kind key key2 = [] := by
      unfold touchL
      rw [if_neg h1, if_neg (by omega), if_neg h6, if_neg h7, if_neg h8]
    have g1 : (kind == 1) = false := by simpa using h1
    have g2 : (kind == 2) = false := by simpa using h2
    have g3 : (kind == 3) = false := by simpa using h3
    have g4 : (kind == 4) = false := by simpa using h4
    have g5 : (kind == 5) = false := by simpa using h5
    have g6 : (kind == 6) = false := by simpa using h6
    have g7 : (kind == 7) = false := by simpa using h7
    have g8 : (kind == 8) = false := by simpa using h8
    rw [e]
    clear h1 h2 h3 h4 h5 h6 h7 h8 e
    go_enter Try.func12, Try.ntmps12
    go_wp2
    go_ret
    exact ⟨_, rfl, World.ownsRow_nil _ _ _ _, (Below.refl _ _).alloc (Nat.le_refl _) _⟩

theorem Tchs.len {w : World} {B : Nat} {v : Value} {L : List Tch} (h : Tchs w B v L) : L.length ≤ maxLen := by
  rcases h.2 with ⟨_, h0⟩ | ⟨b, cap', cur, e, _, _, h1, h2, _⟩ <;> omega

set_option maxHeartbeats 1000000 in
set_option maxRecDepth 100000 in
theorem rsameT_any (a b : Option Addr) (n m cap cap' B C : Nat) (L : List Tch) (w : World) (ha : Tchs w B (.slice a n cap) L) (hb : Tchs w C (.slice b m cap') L) (hn : L.length = n) (hm : L.length = m) (hl : n ≤ maxLen) :
    Calls Try.prog 13 #[.slice a n cap, .slice b m cap'] w fun e w' => e = .returned (.bool true) ∧ ∃ q, w' = w.drewN q := by
  obtain rfl : n = m := by omega
  unfold maxLen at hl
  have HA : Hid (Tchs w B (.slice a n cap) L) := ha
  have HC : Hid (Tchs w C (.slice b n cap') L) := hb
  have HN : Hid (L.length = n) := hn
  clear ha hb hn hm
  have hnn : (((n : Nat) : Int) != ((n : Nat) : Int)) = false := by simp
  go_enter Try.func13, Try.ntmps13
  go_wp2_with fail
  go_loopw [5] (fun i wr => ∃ k q : Nat, i = .int .i64 (k : Int) ∧ k ≤ n ∧ wr = w.drewN q) (fun i _ => n - (intOf i).toNat)
  case atStart => exact ⟨0, 0, rfl, Nat.zero_le _, rfl⟩
  case round =>
    obtain ⟨k, q, rfl, hk, rfl⟩ := hrel
    by_cases hlt : k < n
    · obtain ⟨b1, rfl, c0, c1, c2⟩ := HA.out.at (i := k) (by rw [HN.out]; exact hlt)
      obtain ⟨b2, rfl, d0, d1, d2⟩ := HC.out.at (i := k) (by rw [HN.out]; exact hlt)
      generalize L.getD k tZ = t at *
      obtain ⟨tk, te, tw⟩ := t
      simp only at c0 c1 c2 d0 d1 d2
      have e0 : (!(tk.toList == tk.toList)) = false := by simp
      have e1 : (!(te.toList == te.toList)) = false := by simp
      have e2 : (tw != tw) = false := by simp
      go_wp2
      go_quiet (fail)
      go_wp2
      go_roundw
      case rel => exact ⟨k + 1, _, by go_num, by omega, rfl⟩
      case measure => simp [intOf]; omega
    · go_wp2
      go_ret
      exact ⟨rfl, _, rfl⟩
end Go.Proofs.Ytahaecnopeffhaa
