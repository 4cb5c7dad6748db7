/- slices.ContainsFunc over a list of predicates, at the closures of predicate.Holds. -/
import Derived.Test.YtlchcakmcikjnaaDoorPg
set_option linter.unusedSimpArgs false
set_option linter.unusedVariables false
namespace Go.Proofs.YtlchcakmcikjnaaDoor
open Go.RowKit

/-- What IndexFunc answers. -/
def IdxP (f : Pr → Bool) (ps : List Pr) (w : World) (e : Ending) (w' : World) : Prop := ∃ i : Int, e = .returned (.int .i64 i) ∧ (ps.any f = true → 0 ≤ i) ∧ (ps.any f = false → i = -1) ∧ Gro w w'

end Go.Proofs.YtlchcakmcikjnaaDoor
