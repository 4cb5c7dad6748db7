/- Pieces for the laws about codec that make rows: slices of bytes cut, cases, values. -/
import Derived.Test.YtekmllanhppiaaaCs
import Derived.Test.YtekmllanhppiaaaCk
import Derived.Test.YtekmllanhppiaaaCo
import Derived.Test.YtekmllanhppiaaaKa
set_option linter.unusedSimpArgs false
set_option linter.unusedVariables false
namespace Go.Proofs.Ytekmllanhppiaaa
open Go.RowKit
open Go.Lib (byteCells uvarint zigzag)

theorem slice_to_i (a : Option Addr) (cap m n : Nat) (hn : n ≤ m) (hc : m ≤ cap) (hm : cap ≤ maxLen) (w : World) :
    (Instr.slice 22 (.slice a m cap) none (some (.int .i64 (n : Int))) none).run Try.prog w = .ok (.slice a n cap) w := by
  have h0 : n ≤ cap := by omega
  have hm' : cap ≤ 9223372036854775807 := hm
  cases a <;> simp [Instr.slice, run_underlying Try.underlying22, Instr.sliceBounds, Instr.sliceBound, asIntOf, go_sem, h0]
theorem AllV.i64 {r : List V} (h : AllV r) : ∀ x ∈ r, validB x = true ∧ isI64 x.n := fun x hx => ⟨(h x hx).1, (h x hx).2⟩
theorem rowOut_ok {bs : List UInt8} {r : List V} {w : World} {e : Ending} {w' : World} (h : RowOut bs r w e w') (h12 : r.length ≤ 12) (hv : AllV r) : ∃ v, e = .returned (.tuple #[v, .int .i64 0]) ∧ Own w.heap.size w' v (bs ++ encR r) ∧ Below w.heap.size w w' := by
  unfold RowOut at h
  rwa [if_neg (by omega), if_pos (List.all_eq_true.2 fun x hx => (hv x hx).1)] at h
theorem below_case {w w1 w2 : World} {b : Nat} (h1 : Below w.heap.size w w1) (hb : w.heap.size ≤ b) (h2 : w1.grownBy w2 (some b)) : Below w.heap.size w w2 := h1.grown h2 h1.size (fun k hk => by cases hk; exact hb)
theorem nat_rem (x l : Nat) : (x : Int).tmod (l : Int) = ((x % l : Nat) : Int) := by rw [Int.tmod_eq_emod_of_nonneg (by omega)]; rfl
end Go.Proofs.Ytekmllanhppiaaa
