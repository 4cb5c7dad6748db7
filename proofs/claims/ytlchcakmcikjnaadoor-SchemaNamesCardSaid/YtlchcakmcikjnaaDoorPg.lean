/- The contract of predicate.Holds. -/
import Derived.Test.YtlchcakmcikjnaaDoorPe
set_option linter.unusedSimpArgs false
set_option linter.unusedVariables false
namespace Go.Proofs.YtlchcakmcikjnaaDoor
open Go.RowKit

/-- The cells of a predicate's box. -/
structure PBox (w : World) (g : Nat) (p : Pr) (s : Value) : Prop where
  l : g < w.heap.size
  c0 : w.cell? ⟨g, 0, none⟩ = some (.int .i64 p.op)
  c1 : w.cell? ⟨g, 1, none⟩ = some (.int .i64 p.cmp)
  c2 : w.cell? ⟨g, 2, none⟩ = some (.int .i64 p.l.k)
  c3 : w.cell? ⟨g, 3, none⟩ = some (.int .i64 p.l.i)
  c4 : w.cell? ⟨g, 4, none⟩ = some (.int .i64 p.l.v.k)
  c5 : w.cell? ⟨g, 5, none⟩ = some (.int .i64 p.l.v.n)
  c6 : w.cell? ⟨g, 6, none⟩ = some (.string p.l.v.t)
  c7 : w.cell? ⟨g, 7, none⟩ = some (.int .i64 p.r.k)
  c8 : w.cell? ⟨g, 8, none⟩ = some (.int .i64 p.r.i)
  c9 : w.cell? ⟨g, 9, none⟩ = some (.int .i64 p.r.v.k)
  c10 : w.cell? ⟨g, 10, none⟩ = some (.int .i64 p.r.v.n)
  c11 : w.cell? ⟨g, 11, none⟩ = some (.string p.r.v.t)
  c12 : w.cell? ⟨g, 12, none⟩ = some s
/-- The block of a predicate's box. -/
abbrev pBlock (p : Pr) (s : Value) (T : TypeId) : Obj := pObj p.op p.cmp p.l.k p.l.i p.l.v.k p.l.v.n p.l.v.t p.r.k p.r.i p.r.v.k p.r.v.n p.r.v.t s T
theorem PBox.new (w : World) (p : Pr) (s : Value) (T : TypeId) : PBox (w.alloc (pBlock p s T)) w.heap.size p s :=
  ⟨by simp, by go_simp, by go_simp, by go_simp, by go_simp, by go_simp, by go_simp, by go_simp, by go_simp, by go_simp, by go_simp, by go_simp, by go_simp, by go_simp⟩
theorem PBox.later {w w' : World} {g : Nat} {p : Pr} {s : Value} (h : PBox w g p s) (hw : Below w.heap.size w w') : PBox w' g p s :=
  have hc : ∀ o, w'.cell? ⟨g, o, none⟩ = w.cell? ⟨g, o, none⟩ := fun o => hw.cell (p := ⟨g, o, none⟩) h.l
  ⟨Nat.lt_of_lt_of_le h.l hw.size, (hc _).trans h.c0, (hc _).trans h.c1, (hc _).trans h.c2, (hc _).trans h.c3, (hc _).trans h.c4, (hc _).trans h.c5, (hc _).trans h.c6, (hc _).trans h.c7, (hc _).trans h.c8, (hc _).trans h.c9, (hc _).trans h.c10, (hc _).trans h.c11, (hc _).trans h.c12⟩
theorem RowAt.slice {w : World} {v : Value} {r : List V} (h : RowAt w v r) : ∃ a n cap, v = .slice a n cap := let ⟨a, cap, h1, _⟩ := h; ⟨a, _, cap, h1⟩
section
variable {S : Nat → Prop} {va vb : Value} {row par : List V} {k : Nat}
end
end Go.Proofs.YtlchcakmcikjnaaDoor
