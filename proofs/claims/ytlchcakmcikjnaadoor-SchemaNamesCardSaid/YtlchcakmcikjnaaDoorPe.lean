/- The contracts of predicate.denoted and of the reference's Compares and denoted. -/
import Derived.Test.YtlchcakmcikjnaaDoorPd
set_option linter.unusedSimpArgs false
set_option linter.unusedVariables false
namespace Go.Proofs.YtlchcakmcikjnaaDoor
open Go.RowKit

/-- The cells of an operand's box and of a value's behind it. -/
structure OdV (w : World) (g : Nat) (o : Od) : Prop where
  l0 : g < w.heap.size
  l1 : g + 1 < w.heap.size
  a0 : w.cell? ⟨g, 0, none⟩ = some (.int .i64 o.k)
  a1 : w.cell? ⟨g, 1, none⟩ = some (.int .i64 o.i)
  a2 : w.cell? ⟨g, 2, none⟩ = some (.int .i64 o.v.k)
  a3 : w.cell? ⟨g, 3, none⟩ = some (.int .i64 o.v.n)
  a4 : w.cell? ⟨g, 4, none⟩ = some (.string o.v.t)
  b0 : w.cell? ⟨g + 1, 0, none⟩ = some (.int .i64 0)
  b1 : w.cell? ⟨g + 1, 1, none⟩ = some (.int .i64 0)
  b2 : w.cell? ⟨g + 1, 2, none⟩ = some (.string ⟨#[]⟩)
  f0 : w.frozen? ⟨g + 1, 0, none⟩ = false
  f1 : w.frozen? ⟨g + 1, 1, none⟩ = false
  f2 : w.frozen? ⟨g + 1, 2, none⟩ = false
theorem OdV.new (w : World) (o : Od) (T T' : TypeId) : OdV ((w.alloc (.cells #[.int .i64 o.k, .int .i64 o.i, .int .i64 o.v.k, .int .i64 o.v.n, .string o.v.t] T)).alloc (.cells #[.int .i64 0, .int .i64 0, .string ⟨#[]⟩] T')) w.heap.size o :=
  ⟨by simp; omega, by simp, by go_simp, by go_simp, by go_simp, by go_simp, by go_simp, by go_simp, by go_simp, by go_simp, by go_simp, by go_simp, by go_simp⟩
theorem OdV.later {w w' : World} {g : Nat} {o : Od} (h : OdV w g o) (hw : Below w.heap.size w w') : OdV w' g o :=
  ⟨Nat.lt_of_lt_of_le h.l0 hw.size, Nat.lt_of_lt_of_le h.l1 hw.size, (hw.cell (p := ⟨g, 0, none⟩) h.l0).trans h.a0, (hw.cell (p := ⟨g, 1, none⟩) h.l0).trans h.a1, (hw.cell (p := ⟨g, 2, none⟩) h.l0).trans h.a2, (hw.cell (p := ⟨g, 3, none⟩) h.l0).trans h.a3, (hw.cell (p := ⟨g, 4, none⟩) h.l0).trans h.a4,
    (hw.cell (p := ⟨g + 1, 0, none⟩) h.l1).trans h.b0, (hw.cell (p := ⟨g + 1, 1, none⟩) h.l1).trans h.b1, (hw.cell (p := ⟨g + 1, 2, none⟩) h.l1).trans h.b2,
    by rw [World.frozen?_of_block (w := w) (hw.block _ h.l1)]; exact h.f0, by rw [World.frozen?_of_block (w := w) (hw.block _ h.l1)]; exact h.f1, by rw [World.frozen?_of_block (w := w) (hw.block _ h.l1)]; exact h.f2⟩
theorem gro_three {a w : World} (h : Gro a w) {g : Nat} (hg : a.heap.size ≤ g) (x y z : Value) : Gro a (((w.setCell ⟨g, 0, none⟩ x).setCell ⟨g, 1, none⟩ y).setCell ⟨g, 2, none⟩ z) := ((h.setCell hg _).setCell hg _).setCell hg _
def ValG (v : V) (w : World) (e : Ending) (w' : World) : Prop := e = .returned v.val ∧ Gro w w'
end Go.Proofs.YtlchcakmcikjnaaDoor
