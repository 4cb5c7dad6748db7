/- The contracts of predicate.comparison, compare and denoted, and of the reference's Compares and denoted. -/
import Derived.Test.YteihifhmoalafaaDoorPb
set_option linter.unusedSimpArgs false
set_option linter.unusedVariables false
namespace Go.Proofs.YteihifhmoalafaaDoor
open Go.RowKit

def BoolG (q : Bool) (w : World) (e : Ending) (w' : World) : Prop := e = .returned (.bool q) ∧ Gro w w'
theorem boolg {x y : Bool} {w w' : World} (h : y = x) (h3 : Gro w w') : BoolG x w (.returned (.bool y)) w' := by subst h; exact ⟨rfl, h3⟩
theorem isEqual_calls (d : Int) (w : World) : Calls Tryd.prog 78 #[.int .i64 d] w (BoolG (decide (d = 0)) w) := by
  go_enter Tryd.func78, Tryd.ntmps78
  go_wp2
  go_ret
  exact boolg (by first | rfl | (rw [Bool.eq_iff_iff]; simp) | simp) (Gro.refl _)
theorem isNotEqual_calls (d : Int) (w : World) : Calls Tryd.prog 79 #[.int .i64 d] w (BoolG (!decide (d = 0)) w) := by
  go_enter Tryd.func79, Tryd.ntmps79
  go_wp2
  go_ret
  exact boolg (by first | rfl | (rw [Bool.eq_iff_iff]; simp) | simp) (Gro.refl _)
theorem isLess_calls (d : Int) (w : World) : Calls Tryd.prog 80 #[.int .i64 d] w (BoolG (decide (d < 0)) w) := by
  go_enter Tryd.func80, Tryd.ntmps80
  go_wp2
  go_ret
  exact boolg (by first | rfl | (rw [Bool.eq_iff_iff]; simp) | simp) (Gro.refl _)
theorem isLessOrEqual_calls (d : Int) (w : World) : Calls Tryd.prog 81 #[.int .i64 d] w (BoolG (decide (d ≤ 0)) w) := by
  go_enter Tryd.func81, Tryd.ntmps81
  go_wp2
  go_ret
  exact boolg (by first | rfl | (rw [Bool.eq_iff_iff]; simp) | simp) (Gro.refl _)
theorem isGreater_calls (d : Int) (w : World) : Calls Tryd.prog 82 #[.int .i64 d] w (BoolG (decide (0 < d)) w) := by
  go_enter Tryd.func82, Tryd.ntmps82
  go_wp2
  go_ret
  exact boolg (by first | rfl | (rw [Bool.eq_iff_iff]; simp) | simp) (Gro.refl _)
theorem isGreaterOrEqual_calls (d : Int) (w : World) : Calls Tryd.prog 83 #[.int .i64 d] w (BoolG (decide (0 ≤ d)) w) := by
  go_enter Tryd.func83, Tryd.ntmps83
  go_wp2
  go_ret
  exact boolg (by first | rfl | (rw [Bool.eq_iff_iff]; simp) | simp) (Gro.refl _)
/-- What predicate.comparison answers. -/
def FnOut (cmp : Int) (w : World) (e : Ending) (w' : World) : Prop := e = .returned (if cmp = 1 then .func (.func 78) #[] #[] else if cmp = 2 then .func (.func 79) #[] #[] else if cmp = 3 then .func (.func 80) #[] #[] else if cmp = 4 then .func (.func 81) #[] #[] else if cmp = 5 then .func (.func 82) #[] #[] else if cmp = 6 then .func (.func 83) #[] #[] else .nilFunc) ∧ Gro w w'
theorem fn_none {cmp : Int} (h : cmp < 1 ∨ 6 < cmp) : (if cmp = 1 then Value.func (.func 78) #[] #[] else if cmp = 2 then .func (.func 79) #[] #[] else if cmp = 3 then .func (.func 80) #[] #[] else if cmp = 4 then .func (.func 81) #[] #[] else if cmp = 5 then .func (.func 82) #[] #[] else if cmp = 6 then .func (.func 83) #[] #[] else .nilFunc) = .nilFunc := by
  rw [if_neg (by omega), if_neg (by omega), if_neg (by omega), if_neg (by omega), if_neg (by omega), if_neg (by omega)]
set_option maxHeartbeats 1000000 in
theorem comparison_calls (cmp : Int) (w : World) : Calls Tryd.prog 67 #[.int .i64 cmp] w (FnOut cmp w) := by
  by_cases h0 : cmp < 1 ∨ 6 < cmp
  · have HE := Lib.hid (fn_none h0)
    have h : cmp < 0 ∨ cmp = 0 ∨ 7 ≤ cmp := by omega
    clear h0
    rcases h with h | rfl | h
    · have hd : decide (cmp < 0) = true := decide_eq_true h
      go_enter Tryd.func67, Tryd.ntmps67
      go_wp2
      go_ret
      exact ⟨(congrArg Ending.returned HE.out).symm, (Gro.refl _).alloc _⟩
    · go_enter Tryd.func67, Tryd.ntmps67
      go_wp2
      go_ret
      exact ⟨rfl, (Gro.refl _).alloc _⟩
    · have hd : decide (cmp < 0) = false := decide_eq_false (by omega)
      have hd2 : decide (7 ≤ cmp) = true := decide_eq_true h
      go_enter Tryd.func67, Tryd.ntmps67
      go_wp2
      go_ret
      exact ⟨(congrArg Ending.returned HE.out).symm, (Gro.refl _).alloc _⟩
  · obtain rfl | rfl | rfl | rfl | rfl | rfl : cmp = 1 ∨ cmp = 2 ∨ cmp = 3 ∨ cmp = 4 ∨ cmp = 5 ∨ cmp = 6 := by omega
    all_goals
      go_enter Tryd.func67, Tryd.ntmps67
      go_wp2
      go_ret
      exact ⟨rfl, (Gro.refl _).alloc _⟩
end Go.Proofs.YteihifhmoalafaaDoor
