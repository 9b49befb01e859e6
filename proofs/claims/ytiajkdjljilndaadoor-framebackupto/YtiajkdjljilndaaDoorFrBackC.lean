/- FrameBack's walk where there are no payloads. -/
import Derived.Test.YtiajkdjljilndaaDoorFrBackA
namespace Go.Proofs.YtiajkdjljilndaaDoor
open Go.RowKit Go.Wire1 Go.Crc2 Go.Frm

set_option maxHeartbeats 8000000 in
set_option maxRecDepth 100000 in
theorem back_none (v : Nat) (hv : v ≤ 2) (pa : Option Addr) (pcap : Nat) (ca : Option Addr) (cn ccap : Nat) (cl : List Int) (y3 : Int) (_hy3 : -9223372036854775808 ≤ y3 ∧ y3 ≤ 9223372036854775807) (a : Nat → Addr) (w : World) (hI : SegI w ca cn cl) (hcc : cn ≤ ccap) (hH : Hal w) (hE : Errs w a) :
    Calls Tryd.prog 6 #[.int .i64 (v : Int), .slice pa 0 pcap, .slice ca cn ccap, .int .i64 y3] w fun e w' => e = .returned (.bool true) ∧ Below w.heap.size w w' := by
  have hcs : ∀ W : World, Chs W pa 0 [] := fun W => ⟨rfl, Nat.zero_le _, fun h => by omega⟩
  have hsd := fun (W : World) (h1 : Hal W) => sealed_any v hv pa 0 pcap [] W (hcs W) (by simp) (by simp [joinF]) h1
  simp only [SdPost, joinF, List.length_nil, List.map_nil, List.take_nil] at hsd
  have hfit : fitL [] = true := rfl
  have HSD := hide hsd
  have HCS := hide hcs
  have HFT := hide hfit
  clear hsd hcs hfit
  have HAL := hide hH
  have HER := hide hE
  have HI := hide hI
  clear hH hE hI
  go_enter Tryd.func6, Tryd.ntmps6
  go_wp2_with fail
  refine (feeds_any a w HAL.out HER.out).mono ?_
  rintro r_ wf ⟨rfl, hbf⟩
  have BF := hide hbf
  clear hbf
  go_wp2_with fail
  refine (fits_any v hv pa 0 pcap [] wf (HCS.out wf)).mono ?_
  rintro r_ W0 ⟨rfl, rfl⟩
  rw [HFT.out]
  go_wp2_with fail
  refine (HSD.out wf (HAL.out.later BF.out)).mono ?_
  rintro r_ w1 ⟨ga, gc, rfl, hO, hb1⟩
  have B1 : Hid (Below w.heap.size w w1) := BF.out.trans (hb1.mono BF.out.size)
  have hcap := own_cap hO
  clear hO hb1 BF
  go_wp2_with fail
  refine (cut_any ga 0 gc [] ca cn ccap cl w1 (seg_empty _ _) hcap.1 hcap.2 (HI.out.later B1.out) hcc).mono ?_
  rintro r_ w2 ⟨val, ps, rfl, ho, hps, _, hb2⟩
  obtain ⟨va, vc, rfl⟩ := own_shape ho
  have B2 : Hid (Below w.heap.size w w2) := B1.out.trans (hb2.mono B1.out.size)
  have CH := hide (chs_cut (seg_empty w1 ga) hcap.1 hcap.2 (fun z hz => by cases hz) hb2 ho hps)
  have HPS := hide hps
  clear ho hb2 hps
  go_wp2_with fail
  refine (drain_bytes v hv [] [] 0 0 rfl 0 rfl (by decide) va _ vc ps a w2 HPS.out CH.out (HAL.out.later B2.out) (HER.out.below B2.out (Nat.le_refl _))).mono ?_
  rintro r_ w3 ⟨val, gs, rfl, hR, hg, hb3⟩
  obtain ⟨xa, xc, rfl⟩ := hR.shape
  have B3 : Hid (Below w.heap.size w w3) := B2.out.trans (hb3.mono B2.out.size)
  have EL : gs.length = 0 := by have := congrArg List.length hg; rwa [List.length_map] at this
  have LA : Hid (Lst w3 xa gs.length []) := by rw [← hg]; exact hR.lst
  rw [EL] at LA ⊢
  clear hR hg hb3 EL CH HPS
  go_wp2_with fail
  refine (sameLst_any xa pa 0 xc pcap _ w3 LA.out (HCS.out w3).lst).mono ?_
  rintro r_ w4 ⟨rfl, q, rfl⟩
  have B4 := hide (below_drewN B3.out q)
  generalize w3.drewN q = w4 at *
  go_wp2_with fail
  refine (num_any 0 _).mono ?_
  rintro r_ w5 ⟨rfl, rfl⟩
  go_wp2
  go_ret
  exact ⟨rfl, B4.out⟩
end Go.Proofs.YtiajkdjljilndaaDoor
