/- Slices of rows. -/
import Derived.Test.YtmjokpakekfkfaaC
import Derived.Test.YtmjokpakekfkfaaD
import Derived.Laws.CopyOwn
set_option linter.unusedSimpArgs false
set_option linter.unusedVariables false
namespace Go.Proofs.Ytmjokpakekfkfaa
open Go.RowKit

/-- A slice value that reads as a list of rows. -/
structure RowsIn (w : World) (b off : Nat) (rows : List (List V)) : Prop where
  blk : b < w.heap.size
  at_ : ∀ i (h : i < rows.length), ∃ u, w.cell? ⟨b, off + i, none⟩ = some u ∧ RowAt w u rows[i]
def RowsAt (w : World) (v : Value) (rows : List (List V)) : Prop :=
  ∃ (a : Option Addr) (cap : Nat), v = .slice a rows.length cap ∧ rows.length ≤ 4398046511104 ∧ (rows = [] ∨ ∃ b off, a = some ⟨b, off, none⟩ ∧ RowsIn w b off rows)
theorem RowsIn.later {w w' : World} {b off : Nat} {rows : List (List V)} (h : RowsIn w b off rows) (hw : Below w.heap.size w w') : RowsIn w' b off rows :=
  ⟨Nat.lt_of_lt_of_le h.blk hw.size, fun i hi => let ⟨u, h1, h2⟩ := h.at_ i hi; ⟨u, (hw.cell (p := ⟨b, off + i, none⟩) h.blk).trans h1, h2.later hw⟩⟩
theorem RowsAt.later {w w' : World} {v : Value} {rows : List (List V)} (h : RowsAt w v rows) (hw : Below w.heap.size w w') : RowsAt w' v rows := by
  obtain ⟨a, cap, h1, h2, h3⟩ := h
  exact ⟨a, cap, h1, h2, h3.imp id fun ⟨b, off, h4, h5⟩ => ⟨b, off, h4, h5.later hw⟩⟩

end Go.Proofs.Ytmjokpakekfkfaa
