/- Operands compared; the contracts of predicate.at, kindAt, kindOf and of the reference's kind and plain. -/
import Derived.Test.YtlchcakmcikjnaaDoorPk
import Derived.Test.YtlchcakmcikjnaaDoorPe
set_option linter.unusedSimpArgs false
set_option linter.unusedVariables false
namespace Go.Proofs.YtlchcakmcikjnaaDoor
open Go.RowKit

/-- Whether two operands are equal. -/
noncomputable def eqO (o o' : Od) : Bool := decide (o.k = o'.k) && decide (o.i = o'.i) && decide (o.v = o'.v)
theorem eqin_V (d : Nat) (k n k' n' : Int) (t t' : ByteArray) (w : World) : (Op.equalIn (d + 1 + 1) 56 (.agg #[.int .i64 k, .int .i64 n, .string t]) (.agg #[.int .i64 k', .int .i64 n', .string t'])).run Tryd.prog w = .ok (decide ((⟨k, n, t⟩ : V) = ⟨k', n', t'⟩)) w := by
  have hS : Tryd.prog.underlying 56 = some (.struct (Tryd.prog.fieldsOf 56)) := by kernel_rfl
  have hp : Tryd.prog.stoodInHeld 56 = false := by kernel_rfl
  have u3 := Tryd.underlying3
  have a3 := Tryd.isAgg3
  have z3 := Tryd.sizeOf3
  have u2 := Tryd.underlying2
  have a2 := Tryd.isAgg2
  have z2 := Tryd.sizeOf2
  have u9 := Tryd.underlying9
  have a9 := Tryd.isAgg9
  have z9 := Tryd.sizeOf9
  rw [run_equalIn_agg w (d + 1) 56 _ _ hS hp]
  simp only [Program.fieldsOf, Tryd.underlying56]
  go_simp
  by_cases h1 : k = k' <;> by_cases h2 : n = n' <;> by_cases h3 : t = t' <;> simp [h1, h2, h3]
  exact fun h => h3 (toList_inj h)
theorem eqin_O (d : Nat) (k i vk vn k' i' vk' vn' : Int) (t t' : ByteArray) (w : World) :
    (Op.equalIn (d + 1 + 1 + 1) 72 (.agg #[.int .i64 k, .int .i64 i, .int .i64 vk, .int .i64 vn, .string t]) (.agg #[.int .i64 k', .int .i64 i', .int .i64 vk', .int .i64 vn', .string t'])).run Tryd.prog w = .ok (eqO ⟨k, i, ⟨vk, vn, t⟩⟩ ⟨k', i', ⟨vk', vn', t'⟩⟩) w := by
  have hS : Tryd.prog.underlying 72 = some (.struct (Tryd.prog.fieldsOf 72)) := by kernel_rfl
  have hp : Tryd.prog.stoodInHeld 72 = false := by kernel_rfl
  have u3 := Tryd.underlying3
  have a3 := Tryd.isAgg3
  have z3 := Tryd.sizeOf3
  have a24 := Tryd.isAgg56
  have z24 := Tryd.sizeOf56
  have hv := eqin_V d vk vn vk' vn' t t'
  rw [run_equalIn_agg w (d + 1 + 1) 72 _ _ hS hp]
  simp only [Program.fieldsOf, Tryd.underlying72]
  clear hS hp
  have he : eqO ⟨k, i, ⟨vk, vn, t⟩⟩ ⟨k', i', ⟨vk', vn', t'⟩⟩ = (decide (k = k') && decide (i = i') && decide ((⟨vk, vn, t⟩ : V) = ⟨vk', vn', t'⟩)) := rfl
  rw [he]
  generalize decide ((⟨vk, vn, t⟩ : V) = ⟨vk', vn', t'⟩) = q at hv ⊢
  clear he
  go_simp
  cases q <;> by_cases h1 : k = k' <;> by_cases h2 : i = i' <;> simp [h1, h2]
theorem eql_O (k i vk vn k' i' vk' vn' : Int) (t t' : ByteArray) (w : World) :
    (binOp .eql 72 (.agg #[.int .i64 k, .int .i64 i, .int .i64 vk, .int .i64 vn, .string t]) (.agg #[.int .i64 k', .int .i64 i', .int .i64 vk', .int .i64 vn', .string t'])).run Tryd.prog w = .ok (.bool (eqO ⟨k, i, ⟨vk, vn, t⟩⟩ ⟨k', i', ⟨vk', vn', t'⟩⟩)) w := by
  rw [run_eql_struct, show (10000 : Nat) = 9997 + 1 + 1 + 1 from rfl, eqin_O]; rfl
theorem neq_O (k i vk vn k' i' vk' vn' : Int) (t t' : ByteArray) (w : World) :
    (binOp .neq 72 (.agg #[.int .i64 k, .int .i64 i, .int .i64 vk, .int .i64 vn, .string t]) (.agg #[.int .i64 k', .int .i64 i', .int .i64 vk', .int .i64 vn', .string t'])).run Tryd.prog w = .ok (.bool (!eqO ⟨k, i, ⟨vk, vn, t⟩⟩ ⟨k', i', ⟨vk', vn', t'⟩⟩)) w := by
  rw [run_neq_struct, show (10000 : Nat) = 9997 + 1 + 1 + 1 from rfl, eqin_O]; rfl
theorem neqv_V (k n k' n' : Int) (t t' : ByteArray) (w : World) :
    (binOp .neq 56 (.agg #[.int .i64 k, .int .i64 n, .string t]) (.agg #[.int .i64 k', .int .i64 n', .string t'])).run Tryd.prog w = .ok (.bool (!decide ((⟨k, n, t⟩ : V) = ⟨k', n', t'⟩))) w := by
  rw [run_neq_struct, show (10000 : Nat) = 9998 + 1 + 1 from rfl, eqin_V]; rfl
end Go.Proofs.YtlchcakmcikjnaaDoor
