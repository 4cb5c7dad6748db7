/- The contracts of predicate.at, comparison, compare, denoted and the reference's Compares and denoted. -/
import Derived.Test.YtlchcakmcikjnaaDoorPa
set_option linter.unusedSimpArgs false
set_option linter.unusedVariables false
namespace Go.Proofs.YtlchcakmcikjnaaDoor
open Go.RowKit

theorem atV_neg {l : List V} {i : Int} (h : i < 0) : atV l i = nilV := by unfold atV; rw [if_neg (by omega)]
theorem atV_past {l : List V} {i : Int} (h : (l.length : Int) ≤ i) : atV l i = nilV := by
  unfold atV
  by_cases h0 : 0 ≤ i
  · rw [if_pos h0, List.getD_eq_getElem?_getD, List.getElem?_eq_none (by omega)]; rfl
  · rw [if_neg h0]
theorem atV_in {l : List V} {i : Nat} (h : i < l.length) : atV l i = l[i] := by unfold atV; rw [if_pos (by omega)]; simp [h]
def hasI (l : List V) (i : Int) : Bool := decide (0 ≤ i) && decide (i < l.length)
def AtOut (l : List V) (i : Int) (w : World) (e : Ending) (w' : World) : Prop := e = .returned (.tuple #[(atV l i).val, .bool (hasI l i)]) ∧ Gro w w'
end Go.Proofs.YtlchcakmcikjnaaDoor
/- The contracts of predicate.comparison, compare and denoted, and of the reference's Compares and denoted. -/
set_option linter.unusedSimpArgs false
set_option linter.unusedVariables false
namespace Go.Proofs.YtlchcakmcikjnaaDoor
open Go.RowKit

def BoolG (q : Bool) (w : World) (e : Ending) (w' : World) : Prop := e = .returned (.bool q) ∧ Gro w w'
theorem boolg {x y : Bool} {w w' : World} (h : y = x) (h3 : Gro w w') : BoolG x w (.returned (.bool y)) w' := by subst h; exact ⟨rfl, h3⟩
theorem isEqual_calls (d : Int) (w : World) : Calls Tryd.prog 97 #[.int .i64 d] w (BoolG (decide (d = 0)) w) := by
  go_enter Tryd.func97, Tryd.ntmps97
  go_wp2
  go_ret
  exact boolg (by first | rfl | (rw [Bool.eq_iff_iff]; simp) | simp) (Gro.refl _)
theorem isNotEqual_calls (d : Int) (w : World) : Calls Tryd.prog 98 #[.int .i64 d] w (BoolG (!decide (d = 0)) w) := by
  go_enter Tryd.func98, Tryd.ntmps98
  go_wp2
  go_ret
  exact boolg (by first | rfl | (rw [Bool.eq_iff_iff]; simp) | simp) (Gro.refl _)
theorem isLess_calls (d : Int) (w : World) : Calls Tryd.prog 99 #[.int .i64 d] w (BoolG (decide (d < 0)) w) := by
  go_enter Tryd.func99, Tryd.ntmps99
  go_wp2
  go_ret
  exact boolg (by first | rfl | (rw [Bool.eq_iff_iff]; simp) | simp) (Gro.refl _)
theorem isLessOrEqual_calls (d : Int) (w : World) : Calls Tryd.prog 100 #[.int .i64 d] w (BoolG (decide (d ≤ 0)) w) := by
  go_enter Tryd.func100, Tryd.ntmps100
  go_wp2
  go_ret
  exact boolg (by first | rfl | (rw [Bool.eq_iff_iff]; simp) | simp) (Gro.refl _)
theorem isGreater_calls (d : Int) (w : World) : Calls Tryd.prog 101 #[.int .i64 d] w (BoolG (decide (0 < d)) w) := by
  go_enter Tryd.func101, Tryd.ntmps101
  go_wp2
  go_ret
  exact boolg (by first | rfl | (rw [Bool.eq_iff_iff]; simp) | simp) (Gro.refl _)
theorem isGreaterOrEqual_calls (d : Int) (w : World) : Calls Tryd.prog 102 #[.int .i64 d] w (BoolG (decide (0 ≤ d)) w) := by
  go_enter Tryd.func102, Tryd.ntmps102
  go_wp2
  go_ret
  exact boolg (by first | rfl | (rw [Bool.eq_iff_iff]; simp) | simp) (Gro.refl _)
/-- What predicate.comparison answers. -/
def FnOut (cmp : Int) (w : World) (e : Ending) (w' : World) : Prop := e = .returned (if cmp = 1 then .func (.func 97) #[] #[] else if cmp = 2 then .func (.func 98) #[] #[] else if cmp = 3 then .func (.func 99) #[] #[] else if cmp = 4 then .func (.func 100) #[] #[] else if cmp = 5 then .func (.func 101) #[] #[] else if cmp = 6 then .func (.func 102) #[] #[] else .nilFunc) ∧ Gro w w'
theorem fn_none {cmp : Int} (h : cmp < 1 ∨ 6 < cmp) : (if cmp = 1 then Value.func (.func 97) #[] #[] else if cmp = 2 then .func (.func 98) #[] #[] else if cmp = 3 then .func (.func 99) #[] #[] else if cmp = 4 then .func (.func 100) #[] #[] else if cmp = 5 then .func (.func 101) #[] #[] else if cmp = 6 then .func (.func 102) #[] #[] else .nilFunc) = .nilFunc := by
  rw [if_neg (by omega), if_neg (by omega), if_neg (by omega), if_neg (by omega), if_neg (by omega), if_neg (by omega)]
set_option maxHeartbeats 1000000 in
theorem comparison_calls (cmp : Int) (w : World) : Calls Tryd.prog 95 #[.int .i64 cmp] w (FnOut cmp w) := by
  by_cases h0 : cmp < 1 ∨ 6 < cmp
  · have HE := Lib.hid (fn_none h0)
    have h : cmp < 0 ∨ cmp = 0 ∨ 7 ≤ cmp := by omega
    clear h0
    rcases h with h | rfl | h
    · have hd : decide (cmp < 0) = true := decide_eq_true h
      go_enter Tryd.func95, Tryd.ntmps95
      go_wp2
      go_ret
      exact ⟨(congrArg Ending.returned HE.out).symm, (Gro.refl _).alloc _⟩
    · go_enter Tryd.func95, Tryd.ntmps95
      go_wp2
      go_ret
      exact ⟨rfl, (Gro.refl _).alloc _⟩
    · have hd : decide (cmp < 0) = false := decide_eq_false (by omega)
      have hd2 : decide (7 ≤ cmp) = true := decide_eq_true h
      go_enter Tryd.func95, Tryd.ntmps95
      go_wp2
      go_ret
      exact ⟨(congrArg Ending.returned HE.out).symm, (Gro.refl _).alloc _⟩
  · obtain rfl | rfl | rfl | rfl | rfl | rfl : cmp = 1 ∨ cmp = 2 ∨ cmp = 3 ∨ cmp = 4 ∨ cmp = 5 ∨ cmp = 6 := by omega
    all_goals
      go_enter Tryd.func95, Tryd.ntmps95
      go_wp2
      go_ret
      exact ⟨rfl, (Gro.refl _).alloc _⟩
end Go.Proofs.YtlchcakmcikjnaaDoor
