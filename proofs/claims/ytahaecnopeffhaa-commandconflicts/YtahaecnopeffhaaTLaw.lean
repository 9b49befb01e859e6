/- The contracts of the statements' own put and reads. -/
import Derived.Test.YtahaecnopeffhaaTConf
namespace Go.Proofs.Ytahaecnopeffhaa
open Go.RowKit Go.Wire1

set_option maxHeartbeats 400000 in
set_option maxRecDepth 100000 in
theorem put_any (k : ByteArray) (w : World) :
    Calls Try.prog 8 #[.string k] w fun e w' => e = .returned (.agg #[.int .i64 2, .int .i64 7, .int .i64 300, .string k, .string ⟨#[]⟩, .string ⟨#[118, 119]⟩, .string ⟨#[]⟩, .int .i64 0]) ∧ Below w.heap.size w w' := by
  go_enter Try.func8, Try.ntmps8
  go_wp2
  refine bodyPost_ret (v := .agg #[.int .i64 2, .int .i64 7, .int .i64 300, .string k, .string ⟨#[]⟩, .string ⟨#[118, 119]⟩, .string ⟨#[]⟩, .int .i64 0]) (by simp [results, Try.results8, go_sem]) rfl ⟨rfl, ?_⟩
  exact (Below.refl _ _).alloc (Nat.le_refl _) _

def readK (kind : Int) : Bool := (kind == 1) || (kind == 8)
end Go.Proofs.Ytahaecnopeffhaa
