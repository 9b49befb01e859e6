/- A store into a block of values. -/
import Derived.Test.YtooejihnifphkaaGreatDoorMHead
namespace Go.Proofs.YtooejihnifphkaaGreatDoor
open Go.RowKit Go.Wire1

end Go.Proofs.YtooejihnifphkaaGreatDoor
