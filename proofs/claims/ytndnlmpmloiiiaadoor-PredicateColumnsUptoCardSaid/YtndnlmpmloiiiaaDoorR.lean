/- Rows in memory, and the contracts of slices.CompareFunc, value.CompareRows and the reference's CompareRows. -/
import Derived.Test.YtndnlmpmloiiiaaDoorA3
set_option linter.unusedSimpArgs false
set_option linter.unusedVariables false
namespace Go.Proofs.YtndnlmpmloiiiaaDoor
open Go.RowKit

/-- The three cells of a value. -/
structure At (w : World) (b off : Nat) (v : V) : Prop where
  k : w.cell? ⟨b, off, none⟩ = some (.int .i64 v.k)
  n : w.cell? ⟨b, off + 1, none⟩ = some (.int .i64 v.n)
  t : w.cell? ⟨b, off + 2, none⟩ = some (.string v.t)
/-- A slice value that reads as a row. -/
structure RowIn (w : World) (b off : Nat) (r : List V) : Prop where
  blk : b < w.heap.size
  at_ : ∀ i (h : i < r.length), At w b (off + i * 3) r[i]
def RowAt (w : World) (v : Value) (r : List V) : Prop :=
  ∃ (a : Option Addr) (cap : Nat), v = .slice a r.length cap ∧ r.length ≤ 4398046511104 ∧ (r = [] ∨ ∃ b off, a = some ⟨b, off, none⟩ ∧ RowIn w b off r)

theorem At.later {w w' : World} {b off : Nat} {v : V} (h : At w b off v) (hb : b < w.heap.size) (hw : Below w.heap.size w w') : At w' b off v :=
  ⟨(hw.cell (p := ⟨b, off, none⟩) hb).trans h.k, (hw.cell (p := ⟨b, off + 1, none⟩) hb).trans h.n, (hw.cell (p := ⟨b, off + 2, none⟩) hb).trans h.t⟩
theorem RowIn.later {w w' : World} {b off : Nat} {r : List V} (h : RowIn w b off r) (hw : Below w.heap.size w w') : RowIn w' b off r :=
  ⟨Nat.lt_of_lt_of_le h.blk hw.size, fun i hi => (h.at_ i hi).later h.blk hw⟩
theorem RowAt.later {w w' : World} {v : Value} {r : List V} (h : RowAt w v r) (hw : Below w.heap.size w w') : RowAt w' v r := by
  obtain ⟨a, cap, h1, h2, h3⟩ := h
  exact ⟨a, cap, h1, h2, h3.imp id fun ⟨b, off, h4, h5⟩ => ⟨b, off, h4, h5.later hw⟩⟩

end Go.Proofs.YtndnlmpmloiiiaaDoor
