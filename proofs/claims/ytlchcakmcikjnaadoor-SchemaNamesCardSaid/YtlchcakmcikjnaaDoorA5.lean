/- The contracts of value.Next and the reference's Next. -/
import Derived.Test.YtlchcakmcikjnaaDoorA4
set_option linter.unusedSimpArgs false
set_option linter.unusedVariables false
namespace Go.Proofs.YtlchcakmcikjnaaDoor
open Go.RowKit

/-- The least valid value above a value. -/
def nextV (v : V) : Option V :=
  if validB v = false then none
  else if v.k = 1 then some ⟨2, 0, ByteArray.empty⟩
  else if v.k = 2 then some ⟨3, 0, ByteArray.empty⟩
  else if v.k = 3 then (if v.n = 0 then some ⟨3, 1, ByteArray.empty⟩ else some ⟨4, -9223372036854775808, ByteArray.empty⟩)
  else if v.k = 4 then (if v.n < 9223372036854775807 then some ⟨4, v.n + 1, ByteArray.empty⟩ else some ⟨5, 0, ByteArray.empty⟩)
  else nextTV v.t
theorem nextV_invalid {v : V} (h : validB v = false) : nextV v = none := by unfold nextV; rw [if_pos h]
theorem nextV_text {t : ByteArray} (h : validB ⟨5, 0, t⟩ = true) : nextV ⟨5, 0, t⟩ = nextTV t := by unfold nextV; simp [h]
theorem nextV_int {n : Int} (h : n < 9223372036854775807) : nextV ⟨4, n, ByteArray.empty⟩ = some ⟨4, n + 1, ByteArray.empty⟩ := by unfold nextV; simp [h, validB, validP]
theorem nextV_last {n : Int} (h : ¬ n < 9223372036854775807) : nextV ⟨4, n, ByteArray.empty⟩ = some ⟨5, 0, ByteArray.empty⟩ := by unfold nextV; simp [h, validB, validP]
theorem both_none : both none = .tuple #[V.val ⟨0, 0, ByteArray.empty⟩, .bool false] := rfl
theorem both_some (v : V) : both (some v) = .tuple #[v.val, .bool true] := rfl

theorem box2 {W w : World} {x y z : Value} {T : TypeId} {o : Obj} {q : Nat} {os : Array Obj} (hW : W = Sort.grow (((w.alloc (.cells #[x, y, z] T)).alloc o).drewN q) os) (m : Nat) (os' : Array Obj) :
    (Sort.grow (W.drewN m) os').cell? ⟨w.heap.size, 0, none⟩ = some x ∧ (Sort.grow (W.drewN m) os').cell? ⟨w.heap.size, 1, none⟩ = some y ∧ (Sort.grow (W.drewN m) os').cell? ⟨w.heap.size, 2, none⟩ = some z := by
  subst hW
  refine ⟨?_, ?_, ?_⟩ <;> go_simp

theorem wrap_next (n : Int) (h0 : -9223372036854775808 ≤ n) (h : n < 9223372036854775807) : wrap64 (n + 1) = n + 1 := by
  unfold wrap64
  omega
end Go.Proofs.YtlchcakmcikjnaaDoor
