/- The contracts of the smallest functions of package value and of cmp: what each returns, whatever it is called with. -/
import Derived.Test.YtndnlmpmloiiiaaDoorM
import Derived.WalkKit
import Derived.ProofKit
import Derived.OpenShut
import Derived.WalkLawsBesides
import Derived.WalkSpells
import Derived.Lib.Hide
import Derived.Outline
import Derived.Laws.StructEq
import Derived.Deep.QuietTactic
import Derived.BigQuiet
set_option linter.unusedSimpArgs false
set_option linter.unusedVariables false
namespace Go.Proofs.YtndnlmpmloiiiaaDoor
open Go.RowKit

theorem isNaN_int (a : Int) (w : World) : Calls Tryd.prog 103 #[.int .i64 a] w fun e w' => e = .returned (.bool false) ∧ w = w' := by
  go_enter Tryd.func103, Tryd.ntmps103
  go_wp2
  go_ret
  exact ⟨by simp, rfl⟩
theorem isNaN_int64 (a : Int) (w : World) : Calls Tryd.prog 104 #[.int .i64 a] w fun e w' => e = .returned (.bool false) ∧ w = w' := by
  go_enter Tryd.func104, Tryd.ntmps104
  go_wp2
  go_ret
  exact ⟨by simp, rfl⟩
theorem isNaN_string (a : ByteArray) (w : World) : Calls Tryd.prog 105 #[.string a] w fun e w' => e = .returned (.bool false) ∧ w = w' := by
  go_enter Tryd.func105, Tryd.ntmps105
  go_wp2
  go_ret
  exact ⟨by simp, rfl⟩

theorem ret_i {a b : Int} (h : a = b) : Ending.returned (.int .i64 a) = .returned (.int .i64 b) := by rw [h]

theorem compare_int (a b : Int) (w : World) : Calls Tryd.prog 84 #[.int .i64 a, .int .i64 b] w fun e w' => e = .returned (.int .i64 (cmpI a b)) ∧ w = w' := by
  by_cases h1 : a < b
  · go_enter Tryd.func84, Tryd.ntmps84
    go_wp2_with (go_at_call 103; refine (isNaN_int _ _).mono ?_; rintro e w' ⟨rfl, rfl⟩)
    go_ret
    exact ⟨ret_i (by unfold cmpI; rw [if_pos h1]), rfl⟩
  · by_cases h2 : b < a
    · go_enter Tryd.func84, Tryd.ntmps84
      go_wp2_with (go_at_call 103; refine (isNaN_int _ _).mono ?_; rintro e w' ⟨rfl, rfl⟩)
      go_ret
      exact ⟨ret_i (by unfold cmpI; rw [if_neg (by omega), if_pos (by omega)]), rfl⟩
    · go_enter Tryd.func84, Tryd.ntmps84
      go_wp2_with (go_at_call 103; refine (isNaN_int _ _).mono ?_; rintro e w' ⟨rfl, rfl⟩)
      go_ret
      exact ⟨ret_i (by unfold cmpI; rw [if_neg (by omega), if_neg (by omega)]), rfl⟩
theorem compare_int64 (a b : Int) (w : World) : Calls Tryd.prog 85 #[.int .i64 a, .int .i64 b] w fun e w' => e = .returned (.int .i64 (cmpI a b)) ∧ w = w' := by
  by_cases h1 : a < b
  · go_enter Tryd.func85, Tryd.ntmps85
    go_wp2_with (go_at_call 104; refine (isNaN_int64 _ _).mono ?_; rintro e w' ⟨rfl, rfl⟩)
    go_ret
    exact ⟨ret_i (by unfold cmpI; rw [if_pos h1]), rfl⟩
  · by_cases h2 : b < a
    · go_enter Tryd.func85, Tryd.ntmps85
      go_wp2_with (go_at_call 104; refine (isNaN_int64 _ _).mono ?_; rintro e w' ⟨rfl, rfl⟩)
      go_ret
      exact ⟨ret_i (by unfold cmpI; rw [if_neg (by omega), if_pos (by omega)]), rfl⟩
    · go_enter Tryd.func85, Tryd.ntmps85
      go_wp2_with (go_at_call 104; refine (isNaN_int64 _ _).mono ?_; rintro e w' ⟨rfl, rfl⟩)
      go_ret
      exact ⟨ret_i (by unfold cmpI; rw [if_neg (by omega), if_neg (by omega)]), rfl⟩

theorem less_T {a b : ByteArray} (h : cmpS a b < 0) : Op.bytesLess a.toList b.toList = true := by rw [less_S]; simpa using h
theorem less_F {a b : ByteArray} (h : ¬ cmpS a b < 0) : Op.bytesLess a.toList b.toList = false := by rw [less_S]; simpa using h
theorem eq_T {a b : ByteArray} (h : cmpS a b = 0) : (a.toList == b.toList) = true := by rw [eq_S]; simpa using h
theorem eq_F {a b : ByteArray} (h : ¬ cmpS a b = 0) : (a.toList == b.toList) = false := by rw [eq_S]; simpa using h

theorem compare_string (a b : ByteArray) (w : World) : Calls Tryd.prog 86 #[.string a, .string b] w fun e w' => e = .returned (.int .i64 (cmpS a b)) ∧ w = w' := by
  have hr := goodS.range a b
  by_cases h1 : cmpS a b < 0
  · have l1 := less_T h1
    have f1 : cmpS a b = -1 := by omega
    have F := Lib.hid f1
    clear hr h1 f1
    go_enter Tryd.func86, Tryd.ntmps86
    go_wp2_with (go_at_call 105; refine (isNaN_string _ _).mono ?_; rintro e w' ⟨rfl, rfl⟩)
    go_ret
    exact ⟨ret_i F.out.symm, rfl⟩
  · by_cases h2 : cmpS a b = 0
    · have l1 := less_F h1
      have l2 := eq_T h2
      have F := Lib.hid h2
      clear hr h1 h2
      go_enter Tryd.func86, Tryd.ntmps86
      go_wp2_with (go_at_call 105; refine (isNaN_string _ _).mono ?_; rintro e w' ⟨rfl, rfl⟩)
      go_ret
      exact ⟨ret_i F.out.symm, rfl⟩
    · have l1 := less_F h1
      have l2 := eq_F h2
      have f1 : cmpS a b = 1 := by omega
      have F := Lib.hid f1
      clear hr h1 h2 f1
      go_enter Tryd.func86, Tryd.ntmps86
      go_wp2_with (go_at_call 105; refine (isNaN_string _ _).mono ?_; rintro e w' ⟨rfl, rfl⟩)
      go_ret
      exact ⟨ret_i F.out.symm, rfl⟩

/-! A struct result lies in a new block. -/
theorem boolean_calls (n : Int) (w : World) : Calls Tryd.prog 100 #[.int .i64 n] w fun e w' => e = .returned (V.val ⟨3, n, ByteArray.empty⟩) ∧ Gro w w' := by
  go_enter Tryd.func100, Tryd.ntmps100
  go_wp2
  exact bodyPost_ret (v := V.val ⟨3, n, ByteArray.empty⟩) (by simp [results, Tryd.results100, go_sem, V.val]; try rfl) rfl ⟨rfl, by repeat (first | exact Gro.refl _ | apply Gro.alloc | apply Gro.drew)⟩
theorem integer_calls (n : Int) (w : World) : Calls Tryd.prog 101 #[.int .i64 n] w fun e w' => e = .returned (V.val ⟨4, n, ByteArray.empty⟩) ∧ Gro w w' := by
  go_enter Tryd.func101, Tryd.ntmps101
  go_wp2
  exact bodyPost_ret (v := V.val ⟨4, n, ByteArray.empty⟩) (by simp [results, Tryd.results101, go_sem, V.val]; try rfl) rfl ⟨rfl, by repeat (first | exact Gro.refl _ | apply Gro.alloc | apply Gro.drew)⟩
theorem text_calls (s : ByteArray) (w : World) : Calls Tryd.prog 102 #[.string s] w fun e w' => e = .returned (V.val ⟨5, 0, s⟩) ∧ Gro w w' := by
  go_enter Tryd.func102, Tryd.ntmps102
  go_wp2
  exact bodyPost_ret (v := V.val ⟨5, 0, s⟩) (by simp [results, Tryd.results102, go_sem, V.val]; try rfl) rfl ⟨rfl, by repeat (first | exact Gro.refl _ | apply Gro.alloc | apply Gro.drew)⟩
end Go.Proofs.YtndnlmpmloiiiaaDoor
