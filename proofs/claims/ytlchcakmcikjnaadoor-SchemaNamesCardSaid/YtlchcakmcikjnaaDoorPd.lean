/- The contracts of predicate.compare and denoted, and of the reference's Compares and denoted. -/
import Derived.Test.YtlchcakmcikjnaaDoorPb
set_option linter.unusedSimpArgs false
set_option linter.unusedVariables false
namespace Go.Proofs.YtlchcakmcikjnaaDoor
open Go.RowKit

theorem cpB_eq (cmp : Int) (a b : V) : cpB cmp a b = (decide (a.k = b.k) && realB a && realB b && ordB cmp (cmpV a b)) := by
  unfold cpB; cases realB a <;> cases realB b <;> cases decide (a.k = b.k) <;> rfl
theorem eqin_fn {P : Program} {t : TypeId} {ps rs : Array TypeId} {vd : Bool} (d : Nat) (h : P.underlying t = some (.func ps rs vd)) (f : Fn) (x y : Array Value) (w : World) : (Op.equalIn (d + 1) t (.func f x y) .nilFunc).run P w = .ok false w := by
  simp [Op.equalIn, run_underlying h]
theorem eqin_nil {P : Program} {t : TypeId} {ps rs : Array TypeId} {vd : Bool} (d : Nat) (h : P.underlying t = some (.func ps rs vd)) (w : World) : (Op.equalIn (d + 1) t .nilFunc .nilFunc).run P w = .ok true w := by
  simp [Op.equalIn, run_underlying h]
theorem fn_ne_nil (f : Fn) (x y : Array Value) (w : World) : (binOp .eql 128 (.func f x y) .nilFunc).run Tryd.prog w = .ok (.bool false) w := by
  simp only [binOp]
  simp [Op.equal, Op.maxDepth, eqin_fn 9999 Tryd.underlying128 f x y w]
theorem fn_eq_nil (w : World) : (binOp .eql 128 .nilFunc .nilFunc).run Tryd.prog w = .ok (.bool true) w := by
  simp only [binOp]
  simp [Op.equal, Op.maxDepth, eqin_nil 9999 Tryd.underlying128 w]
/-- The cells of two values' boxes, side by side. -/
structure Two3 (w : World) (g : Nat) (a b : V) : Prop where
  l0 : g < w.heap.size
  l1 : g + 1 < w.heap.size
  a0 : w.cell? ⟨g, 0, none⟩ = some (.int .i64 a.k)
  a1 : w.cell? ⟨g, 1, none⟩ = some (.int .i64 a.n)
  a2 : w.cell? ⟨g, 2, none⟩ = some (.string a.t)
  b0 : w.cell? ⟨g + 1, 0, none⟩ = some (.int .i64 b.k)
  b1 : w.cell? ⟨g + 1, 1, none⟩ = some (.int .i64 b.n)
  b2 : w.cell? ⟨g + 1, 2, none⟩ = some (.string b.t)
theorem Two3.new (w : World) (a b : V) (T : TypeId) : Two3 ((w.alloc (.cells #[.int .i64 a.k, .int .i64 a.n, .string a.t] T)).alloc (.cells #[.int .i64 b.k, .int .i64 b.n, .string b.t] T)) w.heap.size a b :=
  ⟨by simp; omega, by simp, by go_simp, by go_simp, by go_simp, by go_simp, by go_simp, by go_simp⟩
theorem Two3.later {w w' : World} {g : Nat} {a b : V} (h : Two3 w g a b) (hw : Below w.heap.size w w') : Two3 w' g a b :=
  ⟨Nat.lt_of_lt_of_le h.l0 hw.size, Nat.lt_of_lt_of_le h.l1 hw.size, (hw.cell (p := ⟨g, 0, none⟩) h.l0).trans h.a0, (hw.cell (p := ⟨g, 1, none⟩) h.l0).trans h.a1, (hw.cell (p := ⟨g, 2, none⟩) h.l0).trans h.a2,
    (hw.cell (p := ⟨g + 1, 0, none⟩) h.l1).trans h.b0, (hw.cell (p := ⟨g + 1, 1, none⟩) h.l1).trans h.b1, (hw.cell (p := ⟨g + 1, 2, none⟩) h.l1).trans h.b2⟩
end Go.Proofs.YtlchcakmcikjnaaDoor
