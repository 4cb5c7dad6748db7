/- The contract of the reference's Next. -/
import Derived.Test.YtlchcakmcikjnaaDoorA5
set_option linter.unusedSimpArgs false
set_option linter.unusedVariables false
namespace Go.Proofs.YtlchcakmcikjnaaDoor
open Go.RowKit

theorem mod_u8 (x : UInt8) (h : (x.toNat : Int) < 255) : ((x.toNat : Int) + 1) % 256 = ((x + 1).toNat : Int) := by
  have : (x + 1).toNat = x.toNat + 1 := by rw [UInt8.toNat_add]; simp; omega
  rw [this]
  omega
end Go.Proofs.YtlchcakmcikjnaaDoor
