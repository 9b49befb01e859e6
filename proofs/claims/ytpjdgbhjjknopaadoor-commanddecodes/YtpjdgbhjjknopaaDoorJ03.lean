/- Texts of the proof, joined. -/
import Derived.Test.YtpjdgbhjjknopaaDoorRows
import Derived.Test.YtpjdgbhjjknopaaDoorJ01
import Derived.WalkKit
/- The contracts of PutUint, fold and PutInt: what they hand back is new memory that holds just the form of the number. -/
namespace Go.Proofs.YtpjdgbhjjknopaaDoor
open Go.RowKit Go.Wire1

theorem Tryd.info5 : (Tryd.prog.info? 5).map (fun i => (i.zero, i.size, i.bytes)) = some (some (.int .u8 0), 1, 1) := by kernel_rfl

end Go.Proofs.YtpjdgbhjjknopaaDoor
