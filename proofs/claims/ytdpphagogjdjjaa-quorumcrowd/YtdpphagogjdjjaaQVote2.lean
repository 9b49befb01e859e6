/- What a vote is taken for: voteOf; who may lead. -/
import Derived.Test.YtdpphagogjdjjaaQVote
import Derived.Deep.Cut
namespace Go.Proofs.Ytdpphagogjdjjaa
open Go.RowKit Go.Wire1

def zv : List Value := [.int .i64 0, .int .i64 0, .bool false, .int .i64 0, .int .i64 0, .int .i64 0, .int .i64 0, .int .i64 0, .string ⟨#[]⟩, .string ⟨#[]⟩, .string ⟨#[]⟩, .string ⟨#[]⟩, .int .i64 0, .int .i64 0, .slice none 0 0]
/-- Does a vote count in a recovery? -/
def okV (n : Int) (v : Vt) : Bool := if votedQ v.st then sndQ n v.seq v.deps else v.st == 0
end Go.Proofs.Ytdpphagogjdjjaa
