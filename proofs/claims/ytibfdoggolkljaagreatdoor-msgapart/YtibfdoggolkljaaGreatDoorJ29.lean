import Derived.Test.YtibfdoggolkljaaGreatDoorJ28
set_option maxHeartbeats 4000000
set_option maxRecDepth 100000
namespace Go.Proofs.YtibfdoggolkljaaGreatDoor
open Go.RowKit Go.Wire1
theorem results_mid2 {P : Program} {fn : Func} {p r : Tmp} {ty : TypeId} (h : fn.results = #[.cell p ty, .tmp r]) (tmps : Array Value) (w : World) (b : Nat) (cs : List Value) (d : TypeDesc) (ht : tmps[p]?.getD undef = .pointer (some ⟨b, 0, none⟩))
  (hc : w.rangeAt b 0 cs) (hu : P.underlying ty = some d) (hd : d.isRow = true) (hi : (P.info? ty).map (·.size) = some cs.length) : (results fn tmps).run P w = .ok (.tuple #[.agg cs.toArray, tmps.getD r undef]) w := by
 have hl := run_loadVar_mid (P := P) w b 0 ty cs d hc hu hd hi
 simp [results, h, ht, asAddr, hl]
def endF (r : List Int) (f : Int) : Int := if r = [] then f else refF 59 f
def decM (v n : Int) (l : List Int) : Ms × Int := if callF v n = 0 then (if endF (rdMsg v n l 0).2.1 (rdMsg v n l 0).2.2 = 0 then ((rdMsg v n l 0).1, 0) else (zeroM, endF (rdMsg v n l 0).2.1 (rdMsg v n l 0).2.2)) else (zeroM, callF v n)
def DcPost (v n : Int) (l : List Int) (w : World) (r : Ending) (w' : World) : Prop := ∃ u, r = .returned (.tuple #[.agg (mgc (decM v n l).1 u).toArray, .int .i64 (decM v n l).2]) ∧ DV w' w.heap.size u (decM v n l).1.dl ∧ Below w.heap.size w w'
theorem cells_out {q j : Nat} : ∀ (vs : List Value) (o : Nat) (W : World), o + vs.length ≤ j → (W.setCells q o vs).cell? ⟨q, j, none⟩ = W.cell? ⟨q, j, none⟩
 | [], _, _, _ => rfl
 | v :: vs, o, W, h => by
  simp only [List.length_cons] at h
  exact (cells_out vs (o + 1) (W.setCell ⟨q, o, none⟩ v) (by omega)).trans (zO _ _ _ _ (by intro r; injection r with _ r2 _; omega))
theorem cells_far {q g j : Nat} (hg : g ≠ q) : ∀ (vs : List Value) (o : Nat) (W : World), (W.setCells q o vs).cell? ⟨g, j, none⟩ = W.cell? ⟨g, j, none⟩
 | [], _, _ => rfl
 | v :: vs, o, W => (cells_far hg vs (o + 1) (W.setCell ⟨q, o, none⟩ v)).trans (zO _ _ _ _ (by intro r; injection r with r1; omega))
theorem only_nil {m : Ms} (h : only m (shK m) = m) (hd : hasD (shK m) = false) : m.dl = [] := by
 have h7 := shK_le m
 generalize shK m = k at *
 match k, h7, hd with
 | 0, _, _ => rw [← h]; rfl
 | 1, _, hd => cases hd
 | 2, _, hd => cases hd
 | 3, _, _ => rw [← h]; rfl
 | 4, _, hd => cases hd
 | 5, _, _ => rw [← h]; rfl
 | 6, _, hd => cases hd
 | 7, _, _ => rw [← h]; rfl
 | k + 8, h7, _ => omega
theorem scx_new {w W : World} {G : Nat} {V : Nat → Option Value} {sa : Option Addr} {bn cap : Nat} {l : List Int} {T : TypeId} {zs vs : List Value} (hb : Below w.heap.size w W) (hG : G = W.heap.size) (hl : vs.length = zs.length) (h0 : vs[0]? = some (.slice sa bn cap)) (h1 : vs[1]? = some (.int .i64 0)) (hV : ∀ j, 2 ≤ j → vs[j]? = V j) (hs : Seg w sa bn l) (hsrc : Src sa bn cap) (hy : Byt l) :
  Scx w ((W.alloc (.cells zs.toArray T)).setCells G 0 vs) G V l 0 := by
 subst hG
 have Q := blk_cells (blk_new W T zs) hl
 refine ⟨sa, bn, cap, Q.cell 0 _ h0, Q.cell 1 _ h1, fun j hj => ?_, Q.thaw, ?_, hb.size, hs, hsrc, hy⟩
 ·rw [← hV j hj]
  by_cases h : j < vs.length
  ·rw [List.getElem?_eq_getElem h]; exact Q.cell j _ (List.getElem?_eq_getElem h)
  ·rw [cells_out vs 0 _ (by omega), World.cell?_alloc_at _ _ _ _ rfl, List.getElem?_eq_none (by omega)]
   simp; omega
 ·exact below_cells hb.size _ _ _ (hb.alloc hb.size _)
theorem dec_call (v n : Int) (sa : Option Addr) (bn cap : Nat) (l : List Int) (w : World) (hc : callF v n ≠ 0) :
  Calls Tryz.prog 11 #[.int .i64 v, .int .i64 n, .slice sa bn cap] w fun r w' => DcPost v n l w r w' := by
 have eD : decM v n l = (zeroM, callF v n) := by unfold decM; rw [if_neg hc]
 have HED := hide eD
 have q1 : ((callF v n) != 0) = true := by rw [bne_iff_ne]; exact hc
 obtain ⟨cf, hcf⟩ : ∃ cf, Hid (callF v n = cf) := ⟨_, rfl⟩
 have hC := callFault_any v n
 rw [hcf.out] at hC q1 HED
 have HC := hide hC
 have QZ : Hid (Blk (w.alloc (.cells #[.int .i64 0, .int .i64 0, .int .i64 0, .int .i64 0, .int .i64 0, .int .i64 0, .int .i64 0, .int .i64 0, .bool false, .int .i64 0, .int .i64 0, .int .i64 0, .string ⟨#[]⟩, .string ⟨#[]⟩, .string ⟨#[]⟩, .string ⟨#[]⟩, .int .i64 0, .int .i64 0, .slice none 0 0] 30)) w.heap.size [.int .i64 0, .int .i64 0, .int .i64 0, .int .i64 0, .int .i64 0, .int .i64 0, .int .i64 0, .int .i64 0, .bool false, .int .i64 0, .int .i64 0, .int .i64 0, .string ⟨#[]⟩, .string ⟨#[]⟩, .string ⟨#[]⟩, .string ⟨#[]⟩, .int .i64 0, .int .i64 0, .slice none 0 0]) := blk_new w 30 [.int .i64 0, .int .i64 0, .int .i64 0, .int .i64 0, .int .i64 0, .int .i64 0, .int .i64 0, .int .i64 0, .bool false, .int .i64 0, .int .i64 0, .int .i64 0, .string ⟨#[]⟩, .string ⟨#[]⟩, .string ⟨#[]⟩, .string ⟨#[]⟩, .int .i64 0, .int .i64 0, .slice none 0 0]
 have TZ : Hid ((w.alloc (.cells #[.int .i64 0, .int .i64 0, .int .i64 0, .int .i64 0, .int .i64 0, .int .i64 0, .int .i64 0, .int .i64 0, .bool false, .int .i64 0, .int .i64 0, .int .i64 0, .string ⟨#[]⟩, .string ⟨#[]⟩, .string ⟨#[]⟩, .string ⟨#[]⟩, .int .i64 0, .int .i64 0, .slice none 0 0] 30)).there w.heap.size 0 19) := QZ.out.there
 have BY : Hid (Below w.heap.size w ((w.alloc (.cells #[.int .i64 0, .int .i64 0, .int .i64 0, .int .i64 0, .int .i64 0, .int .i64 0, .int .i64 0, .int .i64 0, .bool false, .int .i64 0, .int .i64 0, .int .i64 0, .string ⟨#[]⟩, .string ⟨#[]⟩, .string ⟨#[]⟩, .string ⟨#[]⟩, .int .i64 0, .int .i64 0, .slice none 0 0] 30)).setCells w.heap.size 0 [.int .i64 0, .int .i64 0, .int .i64 0, .int .i64 0, .int .i64 0, .int .i64 0, .int .i64 0, .int .i64 0, .bool false, .int .i64 0, .int .i64 0, .int .i64 0, .string ⟨#[]⟩, .string ⟨#[]⟩, .string ⟨#[]⟩, .string ⟨#[]⟩, .int .i64 0, .int .i64 0, .slice none 0 0])) := below_cells zN _ _ _ ((Below.refl _ _).alloc zN _)
 have RA : Hid (((w.alloc (.cells #[.int .i64 0, .int .i64 0, .int .i64 0, .int .i64 0, .int .i64 0, .int .i64 0, .int .i64 0, .int .i64 0, .bool false, .int .i64 0, .int .i64 0, .int .i64 0, .string ⟨#[]⟩, .string ⟨#[]⟩, .string ⟨#[]⟩, .string ⟨#[]⟩, .int .i64 0, .int .i64 0, .slice none 0 0] 30)).setCells w.heap.size 0 [.int .i64 0, .int .i64 0, .int .i64 0, .int .i64 0, .int .i64 0, .int .i64 0, .int .i64 0, .int .i64 0, .bool false, .int .i64 0, .int .i64 0, .int .i64 0, .string ⟨#[]⟩, .string ⟨#[]⟩, .string ⟨#[]⟩, .string ⟨#[]⟩, .int .i64 0, .int .i64 0, .slice none 0 0]).rangeAt w.heap.size 0 (mgc zeroM (.slice none 0 0))) := (blk_cells (vs := mgc zeroM (.slice none 0 0)) QZ.out rfl).range
 clear hC eD hc
 go_enter Tryz.func11, Tryz.ntmps11
 go_wp2_with fail
 refine (HC.out _).mono ?_
 rintro r w1 ⟨rfl, rfl⟩
 go_wp2_with (first | (refine wpList_store_mid rfl 30 _ _ rfl w.heap.size 0 #[.int .i64 0, .int .i64 0, .int .i64 0, .int .i64 0, .int .i64 0, .int .i64 0, .int .i64 0, .int .i64 0, .bool false, .int .i64 0, .int .i64 0, .int .i64 0, .string ⟨#[]⟩, .string ⟨#[]⟩, .string ⟨#[]⟩, .string ⟨#[]⟩, .int .i64 0, .int .i64 0, .slice none 0 0] rfl rfl TZ.out (by kernel_rfl) (by kernel_rfl) ?_))
 refine bodyPost_ret (results_mid2 Tryz.results11 _ _ w.heap.size (mgc zeroM (.slice none 0 0)) _ rfl RA.out Tryz.underlying30 rfl (by kernel_rfl)) rfl ?_
 exact ⟨.slice none 0 0, by rw [HED.out]; rfl, by rw [HED.out]; exact DV.nil _ _, BY.out⟩
theorem vf1 (n : Int) (sa : Option Addr) (bn cap : Nat) : ∀ j, 2 ≤ j → ([.slice sa bn cap, .int .i64 0, .int .i64 1, .func (.func 25) #[] #[], .func (.func 26) #[] #[], .func (.func 27) #[] #[], .func (.func 28) #[] #[], .func (.func 29) #[] #[], .func (.func 30) #[] #[], .int .i64 n] : List Value)[j]? = Vf 1 n j := by
 intro j hj
 match j, hj with
 | 2, _ => rfl
 | 3, _ => rfl
 | 4, _ => rfl
 | 5, _ => rfl
 | 6, _ => rfl
 | 7, _ => rfl
 | 8, _ => rfl
 | 9, _ => rfl
 | j + 10, _ =>
  have h0 : ¬ (j + 10 = 2) := by omega
  have h1 : ¬ (j + 10 = 9) := by omega
  have h2 : ¬ (j + 10 = 6) := by omega
  have h3 : ¬ (j + 10 = 7) := by omega
  have h4 : ¬ (j + 10 = 8) := by omega
  have h5 : ¬ (j + 10 = 3) := by omega
  have h6 : ¬ (j + 10 = 4) := by omega
  have h7 : ¬ (j + 10 = 5) := by omega
  unfold Vf
  simp [h0, h1, h2, h3, h4, h5, h6, h7]
theorem dec_good1 (n : Int) (sa : Option Addr) (bn cap : Nat) (l : List Int) (a : Nat → Addr) (w : World) (hc : callF 1 n = 0) (hs : Seg w sa bn l) (hsrc : Src sa bn cap) (hy : Byt l) (he : Errs w a) (hKc : Knd w) (hK : Kmd w) :
  Calls Tryz.prog 11 #[.int .i64 1, .int .i64 n, .slice sa bn cap] w fun r w' => DcPost 1 n l w r w' := by
 have HS := hide hs
 have HSR := hide hsrc
 have HY := hide hy
 have HE := hide he
 have HKC := hide hKc
 have HKM := hide hK
 have hC := callFault_any 1 n
 rw [hc] at hC
 have HC := hide hC
 have HCF := hide hc
 have QZ : Hid (Blk (w.alloc (.cells #[.int .i64 0, .int .i64 0, .int .i64 0, .int .i64 0, .int .i64 0, .int .i64 0, .int .i64 0, .int .i64 0, .bool false, .int .i64 0, .int .i64 0, .int .i64 0, .string ⟨#[]⟩, .string ⟨#[]⟩, .string ⟨#[]⟩, .string ⟨#[]⟩, .int .i64 0, .int .i64 0, .slice none 0 0] 30)) w.heap.size [.int .i64 0, .int .i64 0, .int .i64 0, .int .i64 0, .int .i64 0, .int .i64 0, .int .i64 0, .int .i64 0, .bool false, .int .i64 0, .int .i64 0, .int .i64 0, .string ⟨#[]⟩, .string ⟨#[]⟩, .string ⟨#[]⟩, .string ⟨#[]⟩, .int .i64 0, .int .i64 0, .slice none 0 0]) := blk_new w 30 [.int .i64 0, .int .i64 0, .int .i64 0, .int .i64 0, .int .i64 0, .int .i64 0, .int .i64 0, .int .i64 0, .bool false, .int .i64 0, .int .i64 0, .int .i64 0, .string ⟨#[]⟩, .string ⟨#[]⟩, .string ⟨#[]⟩, .string ⟨#[]⟩, .int .i64 0, .int .i64 0, .slice none 0 0]
 have BZ : Hid (Below w.heap.size w (w.alloc (.cells #[.int .i64 0, .int .i64 0, .int .i64 0, .int .i64 0, .int .i64 0, .int .i64 0, .int .i64 0, .int .i64 0, .bool false, .int .i64 0, .int .i64 0, .int .i64 0, .string ⟨#[]⟩, .string ⟨#[]⟩, .string ⟨#[]⟩, .string ⟨#[]⟩, .int .i64 0, .int .i64 0, .slice none 0 0] 30))) := (Below.refl _ _).alloc zN _
 clear hC hc hs hsrc hy he hKc hK
 go_enter Tryz.func11, Tryz.ntmps11
 go_wp2_with fail
 refine (HC.out _).mono ?_
 rintro r w1 ⟨rfl, rfl⟩
 generalize (w.alloc (.cells #[.int .i64 0, .int .i64 0, .int .i64 0, .int .i64 0, .int .i64 0, .int .i64 0, .int .i64 0, .int .i64 0, .bool false, .int .i64 0, .int .i64 0, .int .i64 0, .string ⟨#[]⟩, .string ⟨#[]⟩, .string ⟨#[]⟩, .string ⟨#[]⟩, .int .i64 0, .int .i64 0, .slice none 0 0] 30)) = W0 at *
 go_wp2_with fail
 refine (layout1 _).mono ?_
 rintro r w2 ⟨rfl, hb2⟩
 have QZ2 := hide (QZ.out.on hb2)
 have B2 : Hid (Below w.heap.size w w2) := BZ.out.trans (hb2.mono BZ.out.size)
 have hlt2 : w.heap.size < w2.heap.size := QZ2.out.lt
 clear hb2 QZ BZ
 have hG0 : Hid (Below w2.heap.size w2 ((w2.alloc (.cells #[.slice none 0 0, .int .i64 0, .int .i64 0, .nilFunc, .nilFunc, .nilFunc, .nilFunc, .nilFunc, .nilFunc, .int .i64 0] 65)).setCells w2.heap.size 0 [.slice sa bn cap, .int .i64 0, .int .i64 1, .func (.func 25) #[] #[], .func (.func 26) #[] #[], .func (.func 27) #[] #[], .func (.func 28) #[] #[], .func (.func 29) #[] #[], .func (.func 30) #[] #[], .int .i64 n])) := below_cells zN _ _ _ ((Below.refl _ _).alloc zN _)
 have TS : Hid ((w2.alloc (.cells #[.slice none 0 0, .int .i64 0, .int .i64 0, .nilFunc, .nilFunc, .nilFunc, .nilFunc, .nilFunc, .nilFunc, .int .i64 0] 65)).there w2.heap.size 0 10) := (blk_new w2 65 [.slice none 0 0, .int .i64 0, .int .i64 0, .nilFunc, .nilFunc, .nilFunc, .nilFunc, .nilFunc, .nilFunc, .int .i64 0]).there
 have SX : Hid (Scx w ((w2.alloc (.cells #[.slice none 0 0, .int .i64 0, .int .i64 0, .nilFunc, .nilFunc, .nilFunc, .nilFunc, .nilFunc, .nilFunc, .int .i64 0] 65)).setCells w2.heap.size 0 [.slice sa bn cap, .int .i64 0, .int .i64 1, .func (.func 25) #[] #[], .func (.func 26) #[] #[], .func (.func 27) #[] #[], .func (.func 28) #[] #[], .func (.func 29) #[] #[], .func (.func 30) #[] #[], .int .i64 n]) w2.heap.size (Vf 1 n) l 0) := scx_new (zs := [.slice none 0 0, .int .i64 0, .int .i64 0, .nilFunc, .nilFunc, .nilFunc, .nilFunc, .nilFunc, .nilFunc, .int .i64 0]) B2.out rfl rfl rfl rfl (vf1 n sa bn cap) HS.out HSR.out HY.out
 have QZ3 : Hid (Blk ((w2.alloc (.cells #[.slice none 0 0, .int .i64 0, .int .i64 0, .nilFunc, .nilFunc, .nilFunc, .nilFunc, .nilFunc, .nilFunc, .int .i64 0] 65)).setCells w2.heap.size 0 [.slice sa bn cap, .int .i64 0, .int .i64 1, .func (.func 25) #[] #[], .func (.func 26) #[] #[], .func (.func 27) #[] #[], .func (.func 28) #[] #[], .func (.func 29) #[] #[], .func (.func 30) #[] #[], .int .i64 n]) w.heap.size [.int .i64 0, .int .i64 0, .int .i64 0, .int .i64 0, .int .i64 0, .int .i64 0, .int .i64 0, .int .i64 0, .bool false, .int .i64 0, .int .i64 0, .int .i64 0, .string ⟨#[]⟩, .string ⟨#[]⟩, .string ⟨#[]⟩, .string ⟨#[]⟩, .int .i64 0, .int .i64 0, .slice none 0 0]) := QZ2.out.on hG0.out
 have hXs : Hid (w2.heap.size < ((w2.alloc (.cells #[.slice none 0 0, .int .i64 0, .int .i64 0, .nilFunc, .nilFunc, .nilFunc, .nilFunc, .nilFunc, .nilFunc, .int .i64 0] 65)).setCells w2.heap.size 0 [.slice sa bn cap, .int .i64 0, .int .i64 1, .func (.func 25) #[] #[], .func (.func 26) #[] #[], .func (.func 27) #[] #[], .func (.func 28) #[] #[], .func (.func 29) #[] #[], .func (.func 30) #[] #[], .int .i64 n]).heap.size) := SX.out.lt
 clear QZ2 hG0 HS HSR HY
 simp only [lyc1]
 go_upto_region 5 with (first | (refine wpList_store_mid rfl 65 _ _ rfl w2.heap.size 0 #[.slice sa bn cap, .int .i64 0, .int .i64 1, .func (.func 25) #[] #[], .func (.func 26) #[] #[], .func (.func 27) #[] #[], .func (.func 28) #[] #[], .func (.func 29) #[] #[], .func (.func 30) #[] #[], .int .i64 n] rfl rfl TS.out (by kernel_rfl) (by kernel_rfl) ?_))
 clear TS
 generalize ((w2.alloc (.cells #[.slice none 0 0, .int .i64 0, .int .i64 0, .nilFunc, .nilFunc, .nilFunc, .nilFunc, .nilFunc, .nilFunc, .int .i64 0] 65)).setCells w2.heap.size 0 [.slice sa bn cap, .int .i64 0, .int .i64 1, .func (.func 25) #[] #[], .func (.func 26) #[] #[], .func (.func 27) #[] #[], .func (.func 28) #[] #[], .func (.func 29) #[] #[], .func (.func 30) #[] #[], .int .i64 n]) = X at *
 generalize (Value.agg #[.slice sa bn cap, .int .i64 0, .int .i64 1, .func (.func 25) #[] #[], .func (.func 26) #[] #[], .func (.func 27) #[] #[], .func (.func 28) #[] #[], .func (.func 29) #[] #[], .func (.func 30) #[] #[], .int .i64 n]) = A0
 obtain ⟨G, hG⟩ : ∃ G, G = w2.heap.size := ⟨_, rfl⟩
 rw [← hG] at SX hlt2 hXs ⊢
 have hGle : w.heap.size < G := hlt2
 clear hG hlt2
 have SHP := fun W (h : Scx w W G (Vf 1 n) l 0) => shape_any w G 1 n l a 0 W HE.out HKC.out HKM.out h
 simp only [ShPost] at SHP
 have hon := only_rd 1 n l 0
 have hdM : decM 1 n l = if endF (rdMsg 1 n l 0).2.1 (rdMsg 1 n l 0).2.2 = 0 then ((rdMsg 1 n l 0).1, 0) else (zeroM, endF (rdMsg 1 n l 0).2.1 (rdMsg 1 n l 0).2.2) := by unfold decM; rw [if_pos HCF.out]
 obtain ⟨M, rr, ff, hR⟩ : ∃ M rr ff, rdMsg 1 n l 0 = (M, rr, ff) := ⟨_, _, _, rfl⟩
 simp only [hR] at SHP hon hdM
 have HSHP := hide SHP
 have HON := hide hon
 have HDM := hide hdM
 clear SHP hon hdM hR B2
 go_wp2_with fail
 refine (HSHP.out X SX.out).mono ?_
 rintro r w3 ⟨u, rfl, D3, T3, S3⟩
 have QZ4 := hide (QZ3.out.touch T3 (by omega))
 have HD3 : Hid (DV w3 G u M.dl) := D3.less (by have := hXs.out; omega)
 have HS3 := hide S3
 obtain ⟨SV, hSV⟩ : ∃ SV, Hid (shV M u = SV) := ⟨_, rfl⟩
 rw [hSV.out]
 obtain ⟨ua, uk, uc, rfl⟩ := HD3.out.shape
 clear D3 T3 S3 QZ3 SX hXs
 by_cases hrr : rr = []
 ·subst hrr
  obtain ⟨sa3, n3, c3, S3⟩ := HS3.out
  have r0 := S3.rest
  obtain rfl : 0 = n3 := S3.seg.1
  have HE0 : Hid (endF [] ff = ff) := rfl
  rw [HE0.out] at HDM
  have r1 := S3.flt
  have HB3 : Hid (Below w.heap.size w w3) := S3.low
  clear S3 HE0
  by_cases hff : ff = 0
  ·subst hff
   rw [if_pos rfl] at HDM
   have MO := msgOf_any M (.slice ua uk uc) (fun _ => ⟨ua, uk, uc, rfl⟩) w3
   rw [HON.out, hSV.out] at MO
   obtain ⟨U, hU⟩ : ∃ U, onlyU (.slice ua uk uc) (shK M) = U := ⟨_, rfl⟩
   have hUs : ∃ a k c, U = .slice a k c := by
    rw [← hU]; unfold onlyU; split
    ·exact ⟨_, _, _, rfl⟩
    ·exact ⟨_, _, _, rfl⟩
   have HDU : Hid (DV w3 G U M.dl) := by
    show DV _ _ _ _
    rw [← hU]; unfold onlyU
    cases hd : hasD (shK M) with
    | true => exact HD3.out
    | false => rw [only_nil HON.out hd]; exact DV.nil _ _
   rw [hU] at MO
   obtain ⟨va, vk, vc, rfl⟩ := hUs
   have HMO := hide MO
   clear MO hU HD3 HS3
   go_wp2_with fail
   refine HMO.out.mono ?_
   rintro r w4 ⟨rfl, hb4⟩
   have QZ5 := hide (QZ4.out.on hb4)
   have TZ : Hid (w4.there w.heap.size 0 19) := QZ5.out.there
   have BY : Hid (Below w.heap.size w (w4.setCells w.heap.size 0 (mgc M (.slice va vk vc)))) := below_cells zN _ _ _ (HB3.out.trans (hb4.mono HB3.out.size))
   have RA : Hid ((w4.setCells w.heap.size 0 (mgc M (.slice va vk vc))).rangeAt w.heap.size 0 (mgc M (.slice va vk vc))) := (blk_cells (vs := mgc M (.slice va vk vc)) QZ5.out rfl).range
   have DU : Hid (DV (w4.setCells w.heap.size 0 (mgc M (.slice va vk vc))) w.heap.size (.slice va vk vc) M.dl) := (dv_cells hGle _ _ _ (HDU.out.below hb4 zN)).less (by omega)
   clear hb4 HDU QZ4
   go_wp2_with (first | (refine wpList_store_mid rfl 30 _ _ rfl w.heap.size 0 (mgc M (.slice va vk vc)).toArray rfl rfl TZ.out (by kernel_rfl) (by kernel_rfl) ?_))
   refine bodyPost_ret (results_mid2 Tryz.results11 _ _ w.heap.size (mgc M (.slice va vk vc)) _ rfl RA.out Tryz.underlying30 rfl (by kernel_rfl)) rfl ?_
   exact ⟨.slice va vk vc, by rw [HDM.out]; rfl, by rw [HDM.out]; exact DU.out, BY.out⟩
  ·have hz : Hid (ff ≠ 0) := hff
   rw [if_neg hff] at HDM
   clear HD3 HS3
   have q1 : (ff != 0) = true := by rw [bne_iff_ne]; exact hz.out
   have TZ : Hid (w3.drew.there w.heap.size 0 19) := QZ4.out.drew.there
   have hGne : G ≠ w.heap.size := by omega
   have BY : Hid (Below w.heap.size w (w3.drew.setCells w.heap.size 0 [.int .i64 0, .int .i64 0, .int .i64 0, .int .i64 0, .int .i64 0, .int .i64 0, .int .i64 0, .int .i64 0, .bool false, .int .i64 0, .int .i64 0, .int .i64 0, .string ⟨#[]⟩, .string ⟨#[]⟩, .string ⟨#[]⟩, .string ⟨#[]⟩, .int .i64 0, .int .i64 0, .slice none 0 0])) := below_cells zN _ _ _ ⟨HB3.out.os, HB3.out.tape, HB3.out.output, HB3.out.size, HB3.out.block⟩
   have RA : Hid ((w3.drew.setCells w.heap.size 0 [.int .i64 0, .int .i64 0, .int .i64 0, .int .i64 0, .int .i64 0, .int .i64 0, .int .i64 0, .int .i64 0, .bool false, .int .i64 0, .int .i64 0, .int .i64 0, .string ⟨#[]⟩, .string ⟨#[]⟩, .string ⟨#[]⟩, .string ⟨#[]⟩, .int .i64 0, .int .i64 0, .slice none 0 0]).rangeAt w.heap.size 0 (mgc zeroM (.slice none 0 0))) := (blk_cells (vs := mgc zeroM (.slice none 0 0)) QZ4.out.drew rfl).range
   have r1' : (w3.drew.setCells w.heap.size 0 [.int .i64 0, .int .i64 0, .int .i64 0, .int .i64 0, .int .i64 0, .int .i64 0, .int .i64 0, .int .i64 0, .bool false, .int .i64 0, .int .i64 0, .int .i64 0, .string ⟨#[]⟩, .string ⟨#[]⟩, .string ⟨#[]⟩, .string ⟨#[]⟩, .int .i64 0, .int .i64 0, .slice none 0 0]).cell? ⟨G, 1, none⟩ = some (.int .i64 ff) := (cells_far hGne _ _ _).trans r1
   go_upto_region 9 with fail
   refine wp_region_held_drew (S := (fun w' => w'.cell? ⟨G, 1, none⟩ = some (.int .i64 ff))) (by kernel_rfl) r1 (fun hHeld => ?_)
   refine tk 0 ?_
   refine tk 1 ?_
   refine tk 2 ?_
   refine tk 3 ?_
   refine zR 4 fun K hK => ?_
   refine wp_store_mid 30 _ _ rfl w.heap.size 0 #[.int .i64 0, .int .i64 0, .int .i64 0, .int .i64 0, .int .i64 0, .int .i64 0, .int .i64 0, .int .i64 0, .bool false, .int .i64 0, .int .i64 0, .int .i64 0, .string ⟨#[]⟩, .string ⟨#[]⟩, .string ⟨#[]⟩, .string ⟨#[]⟩, .int .i64 0, .int .i64 0, .slice none 0 0] rfl rfl TZ.out (by kernel_rfl) (by kernel_rfl) ?_
   refine hK.out _ _ r1' (fun hHeld => ?_)
   clear hK K
   try simp only [Act.put, zA, zB, zC]
   refine tk 5 ?_
   refine wpAnyH_done (by kernel_rfl) ?_ _
   go_wp2
   refine bodyPost_ret (results_mid2 Tryz.results11 _ _ w.heap.size (mgc zeroM (.slice none 0 0)) _ rfl RA.out Tryz.underlying30 rfl (by kernel_rfl)) rfl ?_
   exact ⟨.slice none 0 0, by rw [HDM.out]; rfl, by rw [HDM.out]; exact DV.nil _ _, BY.out⟩
 ·obtain ⟨sa3, n3, c3, S3⟩ := HS3.out
  have r0 := S3.rest
  have hn3 : 0 < n3 := by
   have h1 := S3.seg.1
   rcases Nat.eq_zero_or_pos n3 with h2 | h2
   ·rw [h2] at h1; exact absurd (List.length_eq_zero_iff.1 h1) hrr
   ·exact h2
  have hn4 : n3 ≤ 9223372036854775807 := S3.seg.2.1
  have HE0 : Hid (endF rr ff = refF 59 ff) := by show _ = _; unfold endF; rw [if_neg hrr]
  rw [HE0.out] at HDM
  clear S3 HE0
  go_wp2_with fail
  refine (irefuse_x w G (Vf 1 n) rr ff 59 w3 HS3.out).mono ?_
  rintro r w4 ⟨rfl, T4, S4⟩
  have QZ5 := hide (QZ4.out.touch T4 (by omega))
  have hz : Hid (refF 59 ff ≠ 0) := by show _ ≠ _; unfold refF; split <;> omega
  generalize refF 59 ff = fg at *
  have r1 := S4.flt
  have HB4 : Hid (Below w.heap.size w w4) := S4.low
  clear T4 S4 HS3 QZ4 HD3
  rw [if_neg hz.out] at HDM
  have q1 : (fg != 0) = true := by rw [bne_iff_ne]; exact hz.out
  have TZ : Hid (w4.drew.there w.heap.size 0 19) := QZ5.out.drew.there
  have hGne : G ≠ w.heap.size := by omega
  have BY : Hid (Below w.heap.size w (w4.drew.setCells w.heap.size 0 [.int .i64 0, .int .i64 0, .int .i64 0, .int .i64 0, .int .i64 0, .int .i64 0, .int .i64 0, .int .i64 0, .bool false, .int .i64 0, .int .i64 0, .int .i64 0, .string ⟨#[]⟩, .string ⟨#[]⟩, .string ⟨#[]⟩, .string ⟨#[]⟩, .int .i64 0, .int .i64 0, .slice none 0 0])) := below_cells zN _ _ _ ⟨HB4.out.os, HB4.out.tape, HB4.out.output, HB4.out.size, HB4.out.block⟩
  have RA : Hid ((w4.drew.setCells w.heap.size 0 [.int .i64 0, .int .i64 0, .int .i64 0, .int .i64 0, .int .i64 0, .int .i64 0, .int .i64 0, .int .i64 0, .bool false, .int .i64 0, .int .i64 0, .int .i64 0, .string ⟨#[]⟩, .string ⟨#[]⟩, .string ⟨#[]⟩, .string ⟨#[]⟩, .int .i64 0, .int .i64 0, .slice none 0 0]).rangeAt w.heap.size 0 (mgc zeroM (.slice none 0 0))) := (blk_cells (vs := mgc zeroM (.slice none 0 0)) QZ5.out.drew rfl).range
  have r1' : (w4.drew.setCells w.heap.size 0 [.int .i64 0, .int .i64 0, .int .i64 0, .int .i64 0, .int .i64 0, .int .i64 0, .int .i64 0, .int .i64 0, .bool false, .int .i64 0, .int .i64 0, .int .i64 0, .string ⟨#[]⟩, .string ⟨#[]⟩, .string ⟨#[]⟩, .string ⟨#[]⟩, .int .i64 0, .int .i64 0, .slice none 0 0]).cell? ⟨G, 1, none⟩ = some (.int .i64 fg) := (cells_far hGne _ _ _).trans r1
  go_upto_region 9 with fail
  refine wp_region_held_drew (S := (fun w' => w'.cell? ⟨G, 1, none⟩ = some (.int .i64 fg))) (by kernel_rfl) r1 (fun hHeld => ?_)
  refine tk 0 ?_
  refine tk 1 ?_
  refine tk 2 ?_
  refine tk 3 ?_
  refine zR 4 fun K hK => ?_
  refine wp_store_mid 30 _ _ rfl w.heap.size 0 #[.int .i64 0, .int .i64 0, .int .i64 0, .int .i64 0, .int .i64 0, .int .i64 0, .int .i64 0, .int .i64 0, .bool false, .int .i64 0, .int .i64 0, .int .i64 0, .string ⟨#[]⟩, .string ⟨#[]⟩, .string ⟨#[]⟩, .string ⟨#[]⟩, .int .i64 0, .int .i64 0, .slice none 0 0] rfl rfl TZ.out (by kernel_rfl) (by kernel_rfl) ?_
  refine hK.out _ _ r1' (fun hHeld => ?_)
  clear hK K
  try simp only [Act.put, zA, zB, zC]
  refine tk 5 ?_
  refine wpAnyH_done (by kernel_rfl) ?_ _
  go_wp2
  refine bodyPost_ret (results_mid2 Tryz.results11 _ _ w.heap.size (mgc zeroM (.slice none 0 0)) _ rfl RA.out Tryz.underlying30 rfl (by kernel_rfl)) rfl ?_
  exact ⟨.slice none 0 0, by rw [HDM.out]; rfl, by rw [HDM.out]; exact DV.nil _ _, BY.out⟩
theorem vf2 (n : Int) (sa : Option Addr) (bn cap : Nat) : ∀ j, 2 ≤ j → ([.slice sa bn cap, .int .i64 0, .int .i64 2, .func (.func 31) #[] #[], .func (.func 32) #[] #[], .func (.func 33) #[] #[], .func (.func 34) #[] #[], .func (.func 35) #[] #[], .func (.func 36) #[] #[], .int .i64 n] : List Value)[j]? = Vf 2 n j := by
 intro j hj
 match j, hj with
 | 2, _ => rfl
 | 3, _ => rfl
 | 4, _ => rfl
 | 5, _ => rfl
 | 6, _ => rfl
 | 7, _ => rfl
 | 8, _ => rfl
 | 9, _ => rfl
 | j + 10, _ =>
  have h0 : ¬ (j + 10 = 2) := by omega
  have h1 : ¬ (j + 10 = 9) := by omega
  have h2 : ¬ (j + 10 = 6) := by omega
  have h3 : ¬ (j + 10 = 7) := by omega
  have h4 : ¬ (j + 10 = 8) := by omega
  have h5 : ¬ (j + 10 = 3) := by omega
  have h6 : ¬ (j + 10 = 4) := by omega
  have h7 : ¬ (j + 10 = 5) := by omega
  unfold Vf
  simp [h0, h1, h2, h3, h4, h5, h6, h7]
theorem dec_good2 (n : Int) (sa : Option Addr) (bn cap : Nat) (l : List Int) (a : Nat → Addr) (w : World) (hc : callF 2 n = 0) (hs : Seg w sa bn l) (hsrc : Src sa bn cap) (hy : Byt l) (he : Errs w a) (hKc : Knd w) (hK : Kmd w) :
  Calls Tryz.prog 11 #[.int .i64 2, .int .i64 n, .slice sa bn cap] w fun r w' => DcPost 2 n l w r w' := by
 have HS := hide hs
 have HSR := hide hsrc
 have HY := hide hy
 have HE := hide he
 have HKC := hide hKc
 have HKM := hide hK
 have hC := callFault_any 2 n
 rw [hc] at hC
 have HC := hide hC
 have HCF := hide hc
 have QZ : Hid (Blk (w.alloc (.cells #[.int .i64 0, .int .i64 0, .int .i64 0, .int .i64 0, .int .i64 0, .int .i64 0, .int .i64 0, .int .i64 0, .bool false, .int .i64 0, .int .i64 0, .int .i64 0, .string ⟨#[]⟩, .string ⟨#[]⟩, .string ⟨#[]⟩, .string ⟨#[]⟩, .int .i64 0, .int .i64 0, .slice none 0 0] 30)) w.heap.size [.int .i64 0, .int .i64 0, .int .i64 0, .int .i64 0, .int .i64 0, .int .i64 0, .int .i64 0, .int .i64 0, .bool false, .int .i64 0, .int .i64 0, .int .i64 0, .string ⟨#[]⟩, .string ⟨#[]⟩, .string ⟨#[]⟩, .string ⟨#[]⟩, .int .i64 0, .int .i64 0, .slice none 0 0]) := blk_new w 30 [.int .i64 0, .int .i64 0, .int .i64 0, .int .i64 0, .int .i64 0, .int .i64 0, .int .i64 0, .int .i64 0, .bool false, .int .i64 0, .int .i64 0, .int .i64 0, .string ⟨#[]⟩, .string ⟨#[]⟩, .string ⟨#[]⟩, .string ⟨#[]⟩, .int .i64 0, .int .i64 0, .slice none 0 0]
 have BZ : Hid (Below w.heap.size w (w.alloc (.cells #[.int .i64 0, .int .i64 0, .int .i64 0, .int .i64 0, .int .i64 0, .int .i64 0, .int .i64 0, .int .i64 0, .bool false, .int .i64 0, .int .i64 0, .int .i64 0, .string ⟨#[]⟩, .string ⟨#[]⟩, .string ⟨#[]⟩, .string ⟨#[]⟩, .int .i64 0, .int .i64 0, .slice none 0 0] 30))) := (Below.refl _ _).alloc zN _
 clear hC hc hs hsrc hy he hKc hK
 go_enter Tryz.func11, Tryz.ntmps11
 go_wp2_with fail
 refine (HC.out _).mono ?_
 rintro r w1 ⟨rfl, rfl⟩
 generalize (w.alloc (.cells #[.int .i64 0, .int .i64 0, .int .i64 0, .int .i64 0, .int .i64 0, .int .i64 0, .int .i64 0, .int .i64 0, .bool false, .int .i64 0, .int .i64 0, .int .i64 0, .string ⟨#[]⟩, .string ⟨#[]⟩, .string ⟨#[]⟩, .string ⟨#[]⟩, .int .i64 0, .int .i64 0, .slice none 0 0] 30)) = W0 at *
 go_wp2_with fail
 refine (layout2 2 (by decide) _).mono ?_
 rintro r w2 ⟨rfl, hb2⟩
 have QZ2 := hide (QZ.out.on hb2)
 have B2 : Hid (Below w.heap.size w w2) := BZ.out.trans (hb2.mono BZ.out.size)
 have hlt2 : w.heap.size < w2.heap.size := QZ2.out.lt
 clear hb2 QZ BZ
 have hG0 : Hid (Below w2.heap.size w2 ((w2.alloc (.cells #[.slice none 0 0, .int .i64 0, .int .i64 0, .nilFunc, .nilFunc, .nilFunc, .nilFunc, .nilFunc, .nilFunc, .int .i64 0] 65)).setCells w2.heap.size 0 [.slice sa bn cap, .int .i64 0, .int .i64 2, .func (.func 31) #[] #[], .func (.func 32) #[] #[], .func (.func 33) #[] #[], .func (.func 34) #[] #[], .func (.func 35) #[] #[], .func (.func 36) #[] #[], .int .i64 n])) := below_cells zN _ _ _ ((Below.refl _ _).alloc zN _)
 have TS : Hid ((w2.alloc (.cells #[.slice none 0 0, .int .i64 0, .int .i64 0, .nilFunc, .nilFunc, .nilFunc, .nilFunc, .nilFunc, .nilFunc, .int .i64 0] 65)).there w2.heap.size 0 10) := (blk_new w2 65 [.slice none 0 0, .int .i64 0, .int .i64 0, .nilFunc, .nilFunc, .nilFunc, .nilFunc, .nilFunc, .nilFunc, .int .i64 0]).there
 have SX : Hid (Scx w ((w2.alloc (.cells #[.slice none 0 0, .int .i64 0, .int .i64 0, .nilFunc, .nilFunc, .nilFunc, .nilFunc, .nilFunc, .nilFunc, .int .i64 0] 65)).setCells w2.heap.size 0 [.slice sa bn cap, .int .i64 0, .int .i64 2, .func (.func 31) #[] #[], .func (.func 32) #[] #[], .func (.func 33) #[] #[], .func (.func 34) #[] #[], .func (.func 35) #[] #[], .func (.func 36) #[] #[], .int .i64 n]) w2.heap.size (Vf 2 n) l 0) := scx_new (zs := [.slice none 0 0, .int .i64 0, .int .i64 0, .nilFunc, .nilFunc, .nilFunc, .nilFunc, .nilFunc, .nilFunc, .int .i64 0]) B2.out rfl rfl rfl rfl (vf2 n sa bn cap) HS.out HSR.out HY.out
 have QZ3 : Hid (Blk ((w2.alloc (.cells #[.slice none 0 0, .int .i64 0, .int .i64 0, .nilFunc, .nilFunc, .nilFunc, .nilFunc, .nilFunc, .nilFunc, .int .i64 0] 65)).setCells w2.heap.size 0 [.slice sa bn cap, .int .i64 0, .int .i64 2, .func (.func 31) #[] #[], .func (.func 32) #[] #[], .func (.func 33) #[] #[], .func (.func 34) #[] #[], .func (.func 35) #[] #[], .func (.func 36) #[] #[], .int .i64 n]) w.heap.size [.int .i64 0, .int .i64 0, .int .i64 0, .int .i64 0, .int .i64 0, .int .i64 0, .int .i64 0, .int .i64 0, .bool false, .int .i64 0, .int .i64 0, .int .i64 0, .string ⟨#[]⟩, .string ⟨#[]⟩, .string ⟨#[]⟩, .string ⟨#[]⟩, .int .i64 0, .int .i64 0, .slice none 0 0]) := QZ2.out.on hG0.out
 have hXs : Hid (w2.heap.size < ((w2.alloc (.cells #[.slice none 0 0, .int .i64 0, .int .i64 0, .nilFunc, .nilFunc, .nilFunc, .nilFunc, .nilFunc, .nilFunc, .int .i64 0] 65)).setCells w2.heap.size 0 [.slice sa bn cap, .int .i64 0, .int .i64 2, .func (.func 31) #[] #[], .func (.func 32) #[] #[], .func (.func 33) #[] #[], .func (.func 34) #[] #[], .func (.func 35) #[] #[], .func (.func 36) #[] #[], .int .i64 n]).heap.size) := SX.out.lt
 clear QZ2 hG0 HS HSR HY
 simp only [lyc2]
 go_upto_region 5 with (first | (refine wpList_store_mid rfl 65 _ _ rfl w2.heap.size 0 #[.slice sa bn cap, .int .i64 0, .int .i64 2, .func (.func 31) #[] #[], .func (.func 32) #[] #[], .func (.func 33) #[] #[], .func (.func 34) #[] #[], .func (.func 35) #[] #[], .func (.func 36) #[] #[], .int .i64 n] rfl rfl TS.out (by kernel_rfl) (by kernel_rfl) ?_))
 clear TS
 generalize ((w2.alloc (.cells #[.slice none 0 0, .int .i64 0, .int .i64 0, .nilFunc, .nilFunc, .nilFunc, .nilFunc, .nilFunc, .nilFunc, .int .i64 0] 65)).setCells w2.heap.size 0 [.slice sa bn cap, .int .i64 0, .int .i64 2, .func (.func 31) #[] #[], .func (.func 32) #[] #[], .func (.func 33) #[] #[], .func (.func 34) #[] #[], .func (.func 35) #[] #[], .func (.func 36) #[] #[], .int .i64 n]) = X at *
 generalize (Value.agg #[.slice sa bn cap, .int .i64 0, .int .i64 2, .func (.func 31) #[] #[], .func (.func 32) #[] #[], .func (.func 33) #[] #[], .func (.func 34) #[] #[], .func (.func 35) #[] #[], .func (.func 36) #[] #[], .int .i64 n]) = A0
 obtain ⟨G, hG⟩ : ∃ G, G = w2.heap.size := ⟨_, rfl⟩
 rw [← hG] at SX hlt2 hXs ⊢
 have hGle : w.heap.size < G := hlt2
 clear hG hlt2
 have SHP := fun W (h : Scx w W G (Vf 2 n) l 0) => shape_any w G 2 n l a 0 W HE.out HKC.out HKM.out h
 simp only [ShPost] at SHP
 have hon := only_rd 2 n l 0
 have hdM : decM 2 n l = if endF (rdMsg 2 n l 0).2.1 (rdMsg 2 n l 0).2.2 = 0 then ((rdMsg 2 n l 0).1, 0) else (zeroM, endF (rdMsg 2 n l 0).2.1 (rdMsg 2 n l 0).2.2) := by unfold decM; rw [if_pos HCF.out]
 obtain ⟨M, rr, ff, hR⟩ : ∃ M rr ff, rdMsg 2 n l 0 = (M, rr, ff) := ⟨_, _, _, rfl⟩
 simp only [hR] at SHP hon hdM
 have HSHP := hide SHP
 have HON := hide hon
 have HDM := hide hdM
 clear SHP hon hdM hR B2
 go_wp2_with fail
 refine (HSHP.out X SX.out).mono ?_
 rintro r w3 ⟨u, rfl, D3, T3, S3⟩
 have QZ4 := hide (QZ3.out.touch T3 (by omega))
 have HD3 : Hid (DV w3 G u M.dl) := D3.less (by have := hXs.out; omega)
 have HS3 := hide S3
 obtain ⟨SV, hSV⟩ : ∃ SV, Hid (shV M u = SV) := ⟨_, rfl⟩
 rw [hSV.out]
 obtain ⟨ua, uk, uc, rfl⟩ := HD3.out.shape
 clear D3 T3 S3 QZ3 SX hXs
 by_cases hrr : rr = []
 ·subst hrr
  obtain ⟨sa3, n3, c3, S3⟩ := HS3.out
  have r0 := S3.rest
  obtain rfl : 0 = n3 := S3.seg.1
  have HE0 : Hid (endF [] ff = ff) := rfl
  rw [HE0.out] at HDM
  have r1 := S3.flt
  have HB3 : Hid (Below w.heap.size w w3) := S3.low
  clear S3 HE0
  by_cases hff : ff = 0
  ·subst hff
   rw [if_pos rfl] at HDM
   have MO := msgOf_any M (.slice ua uk uc) (fun _ => ⟨ua, uk, uc, rfl⟩) w3
   rw [HON.out, hSV.out] at MO
   obtain ⟨U, hU⟩ : ∃ U, onlyU (.slice ua uk uc) (shK M) = U := ⟨_, rfl⟩
   have hUs : ∃ a k c, U = .slice a k c := by
    rw [← hU]; unfold onlyU; split
    ·exact ⟨_, _, _, rfl⟩
    ·exact ⟨_, _, _, rfl⟩
   have HDU : Hid (DV w3 G U M.dl) := by
    show DV _ _ _ _
    rw [← hU]; unfold onlyU
    cases hd : hasD (shK M) with
    | true => exact HD3.out
    | false => rw [only_nil HON.out hd]; exact DV.nil _ _
   rw [hU] at MO
   obtain ⟨va, vk, vc, rfl⟩ := hUs
   have HMO := hide MO
   clear MO hU HD3 HS3
   go_wp2_with fail
   refine HMO.out.mono ?_
   rintro r w4 ⟨rfl, hb4⟩
   have QZ5 := hide (QZ4.out.on hb4)
   have TZ : Hid (w4.there w.heap.size 0 19) := QZ5.out.there
   have BY : Hid (Below w.heap.size w (w4.setCells w.heap.size 0 (mgc M (.slice va vk vc)))) := below_cells zN _ _ _ (HB3.out.trans (hb4.mono HB3.out.size))
   have RA : Hid ((w4.setCells w.heap.size 0 (mgc M (.slice va vk vc))).rangeAt w.heap.size 0 (mgc M (.slice va vk vc))) := (blk_cells (vs := mgc M (.slice va vk vc)) QZ5.out rfl).range
   have DU : Hid (DV (w4.setCells w.heap.size 0 (mgc M (.slice va vk vc))) w.heap.size (.slice va vk vc) M.dl) := (dv_cells hGle _ _ _ (HDU.out.below hb4 zN)).less (by omega)
   clear hb4 HDU QZ4
   go_wp2_with (first | (refine wpList_store_mid rfl 30 _ _ rfl w.heap.size 0 (mgc M (.slice va vk vc)).toArray rfl rfl TZ.out (by kernel_rfl) (by kernel_rfl) ?_))
   refine bodyPost_ret (results_mid2 Tryz.results11 _ _ w.heap.size (mgc M (.slice va vk vc)) _ rfl RA.out Tryz.underlying30 rfl (by kernel_rfl)) rfl ?_
   exact ⟨.slice va vk vc, by rw [HDM.out]; rfl, by rw [HDM.out]; exact DU.out, BY.out⟩
  ·have hz : Hid (ff ≠ 0) := hff
   rw [if_neg hff] at HDM
   clear HD3 HS3
   have q1 : (ff != 0) = true := by rw [bne_iff_ne]; exact hz.out
   have TZ : Hid (w3.drew.there w.heap.size 0 19) := QZ4.out.drew.there
   have hGne : G ≠ w.heap.size := by omega
   have BY : Hid (Below w.heap.size w (w3.drew.setCells w.heap.size 0 [.int .i64 0, .int .i64 0, .int .i64 0, .int .i64 0, .int .i64 0, .int .i64 0, .int .i64 0, .int .i64 0, .bool false, .int .i64 0, .int .i64 0, .int .i64 0, .string ⟨#[]⟩, .string ⟨#[]⟩, .string ⟨#[]⟩, .string ⟨#[]⟩, .int .i64 0, .int .i64 0, .slice none 0 0])) := below_cells zN _ _ _ ⟨HB3.out.os, HB3.out.tape, HB3.out.output, HB3.out.size, HB3.out.block⟩
   have RA : Hid ((w3.drew.setCells w.heap.size 0 [.int .i64 0, .int .i64 0, .int .i64 0, .int .i64 0, .int .i64 0, .int .i64 0, .int .i64 0, .int .i64 0, .bool false, .int .i64 0, .int .i64 0, .int .i64 0, .string ⟨#[]⟩, .string ⟨#[]⟩, .string ⟨#[]⟩, .string ⟨#[]⟩, .int .i64 0, .int .i64 0, .slice none 0 0]).rangeAt w.heap.size 0 (mgc zeroM (.slice none 0 0))) := (blk_cells (vs := mgc zeroM (.slice none 0 0)) QZ4.out.drew rfl).range
   have r1' : (w3.drew.setCells w.heap.size 0 [.int .i64 0, .int .i64 0, .int .i64 0, .int .i64 0, .int .i64 0, .int .i64 0, .int .i64 0, .int .i64 0, .bool false, .int .i64 0, .int .i64 0, .int .i64 0, .string ⟨#[]⟩, .string ⟨#[]⟩, .string ⟨#[]⟩, .string ⟨#[]⟩, .int .i64 0, .int .i64 0, .slice none 0 0]).cell? ⟨G, 1, none⟩ = some (.int .i64 ff) := (cells_far hGne _ _ _).trans r1
   go_upto_region 9 with fail
   refine wp_region_held_drew (S := (fun w' => w'.cell? ⟨G, 1, none⟩ = some (.int .i64 ff))) (by kernel_rfl) r1 (fun hHeld => ?_)
   refine tk 0 ?_
   refine tk 1 ?_
   refine tk 2 ?_
   refine tk 3 ?_
   refine zR 4 fun K hK => ?_
   refine wp_store_mid 30 _ _ rfl w.heap.size 0 #[.int .i64 0, .int .i64 0, .int .i64 0, .int .i64 0, .int .i64 0, .int .i64 0, .int .i64 0, .int .i64 0, .bool false, .int .i64 0, .int .i64 0, .int .i64 0, .string ⟨#[]⟩, .string ⟨#[]⟩, .string ⟨#[]⟩, .string ⟨#[]⟩, .int .i64 0, .int .i64 0, .slice none 0 0] rfl rfl TZ.out (by kernel_rfl) (by kernel_rfl) ?_
   refine hK.out _ _ r1' (fun hHeld => ?_)
   clear hK K
   try simp only [Act.put, zA, zB, zC]
   refine tk 5 ?_
   refine wpAnyH_done (by kernel_rfl) ?_ _
   go_wp2
   refine bodyPost_ret (results_mid2 Tryz.results11 _ _ w.heap.size (mgc zeroM (.slice none 0 0)) _ rfl RA.out Tryz.underlying30 rfl (by kernel_rfl)) rfl ?_
   exact ⟨.slice none 0 0, by rw [HDM.out]; rfl, by rw [HDM.out]; exact DV.nil _ _, BY.out⟩
 ·obtain ⟨sa3, n3, c3, S3⟩ := HS3.out
  have r0 := S3.rest
  have hn3 : 0 < n3 := by
   have h1 := S3.seg.1
   rcases Nat.eq_zero_or_pos n3 with h2 | h2
   ·rw [h2] at h1; exact absurd (List.length_eq_zero_iff.1 h1) hrr
   ·exact h2
  have hn4 : n3 ≤ 9223372036854775807 := S3.seg.2.1
  have HE0 : Hid (endF rr ff = refF 59 ff) := by show _ = _; unfold endF; rw [if_neg hrr]
  rw [HE0.out] at HDM
  clear S3 HE0
  go_wp2_with fail
  refine (irefuse_x w G (Vf 2 n) rr ff 59 w3 HS3.out).mono ?_
  rintro r w4 ⟨rfl, T4, S4⟩
  have QZ5 := hide (QZ4.out.touch T4 (by omega))
  have hz : Hid (refF 59 ff ≠ 0) := by show _ ≠ _; unfold refF; split <;> omega
  generalize refF 59 ff = fg at *
  have r1 := S4.flt
  have HB4 : Hid (Below w.heap.size w w4) := S4.low
  clear T4 S4 HS3 QZ4 HD3
  rw [if_neg hz.out] at HDM
  have q1 : (fg != 0) = true := by rw [bne_iff_ne]; exact hz.out
  have TZ : Hid (w4.drew.there w.heap.size 0 19) := QZ5.out.drew.there
  have hGne : G ≠ w.heap.size := by omega
  have BY : Hid (Below w.heap.size w (w4.drew.setCells w.heap.size 0 [.int .i64 0, .int .i64 0, .int .i64 0, .int .i64 0, .int .i64 0, .int .i64 0, .int .i64 0, .int .i64 0, .bool false, .int .i64 0, .int .i64 0, .int .i64 0, .string ⟨#[]⟩, .string ⟨#[]⟩, .string ⟨#[]⟩, .string ⟨#[]⟩, .int .i64 0, .int .i64 0, .slice none 0 0])) := below_cells zN _ _ _ ⟨HB4.out.os, HB4.out.tape, HB4.out.output, HB4.out.size, HB4.out.block⟩
  have RA : Hid ((w4.drew.setCells w.heap.size 0 [.int .i64 0, .int .i64 0, .int .i64 0, .int .i64 0, .int .i64 0, .int .i64 0, .int .i64 0, .int .i64 0, .bool false, .int .i64 0, .int .i64 0, .int .i64 0, .string ⟨#[]⟩, .string ⟨#[]⟩, .string ⟨#[]⟩, .string ⟨#[]⟩, .int .i64 0, .int .i64 0, .slice none 0 0]).rangeAt w.heap.size 0 (mgc zeroM (.slice none 0 0))) := (blk_cells (vs := mgc zeroM (.slice none 0 0)) QZ5.out.drew rfl).range
  have r1' : (w4.drew.setCells w.heap.size 0 [.int .i64 0, .int .i64 0, .int .i64 0, .int .i64 0, .int .i64 0, .int .i64 0, .int .i64 0, .int .i64 0, .bool false, .int .i64 0, .int .i64 0, .int .i64 0, .string ⟨#[]⟩, .string ⟨#[]⟩, .string ⟨#[]⟩, .string ⟨#[]⟩, .int .i64 0, .int .i64 0, .slice none 0 0]).cell? ⟨G, 1, none⟩ = some (.int .i64 fg) := (cells_far hGne _ _ _).trans r1
  go_upto_region 9 with fail
  refine wp_region_held_drew (S := (fun w' => w'.cell? ⟨G, 1, none⟩ = some (.int .i64 fg))) (by kernel_rfl) r1 (fun hHeld => ?_)
  refine tk 0 ?_
  refine tk 1 ?_
  refine tk 2 ?_
  refine tk 3 ?_
  refine zR 4 fun K hK => ?_
  refine wp_store_mid 30 _ _ rfl w.heap.size 0 #[.int .i64 0, .int .i64 0, .int .i64 0, .int .i64 0, .int .i64 0, .int .i64 0, .int .i64 0, .int .i64 0, .bool false, .int .i64 0, .int .i64 0, .int .i64 0, .string ⟨#[]⟩, .string ⟨#[]⟩, .string ⟨#[]⟩, .string ⟨#[]⟩, .int .i64 0, .int .i64 0, .slice none 0 0] rfl rfl TZ.out (by kernel_rfl) (by kernel_rfl) ?_
  refine hK.out _ _ r1' (fun hHeld => ?_)
  clear hK K
  try simp only [Act.put, zA, zB, zC]
  refine tk 5 ?_
  refine wpAnyH_done (by kernel_rfl) ?_ _
  go_wp2
  refine bodyPost_ret (results_mid2 Tryz.results11 _ _ w.heap.size (mgc zeroM (.slice none 0 0)) _ rfl RA.out Tryz.underlying30 rfl (by kernel_rfl)) rfl ?_
  exact ⟨.slice none 0 0, by rw [HDM.out]; rfl, by rw [HDM.out]; exact DV.nil _ _, BY.out⟩
theorem mdecode_any (v n : Int) (sa : Option Addr) (bn cap : Nat) (l : List Int) (a : Nat → Addr) (w : World) (hs : Seg w sa bn l) (hsrc : Src sa bn cap) (hy : Byt l) (he : Errs w a) (hKc : Knd w) (hK : Kmd w) :
  Calls Tryz.prog 11 #[.int .i64 v, .int .i64 n, .slice sa bn cap] w fun r w' => DcPost v n l w r w' := by
 by_cases hc : callF v n = 0
 ·have hv : v = 1 ∨ v = 2 := by unfold callF at hc; split at hc <;> simp_all
  rcases hv with rfl | rfl
  ·exact dec_good1 n sa bn cap l a w hc hs hsrc hy he hKc hK
  ·exact dec_good2 n sa bn cap l a w hc hs hsrc hy he hKc hK
 ·exact dec_call v n sa bn cap l w hc
end Go.Proofs.YtibfdoggolkljaaGreatDoor
