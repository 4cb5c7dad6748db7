/- The contracts of the smallest functions of package value and of cmp: what each returns, whatever it is called with. -/
import Derived.Test.YtllakifmflploaaM
import Derived.WalkKit
import Derived.ProofKit
import Derived.OpenShut
import Derived.WalkLawsBesides
import Derived.WalkSpells
import Derived.Lib.Hide
import Derived.Outline
import Derived.Laws.StructEq
import Derived.Deep.QuietTactic
import Derived.BigQuiet
set_option linter.unusedSimpArgs false
set_option linter.unusedVariables false
namespace Go.Proofs.Ytllakifmflploaa
open Go.RowKit

theorem isNaN_int (a : Int) (w : World) : Calls Try.prog 148 #[.int .i64 a] w fun e w' => e = .returned (.bool false) ∧ w = w' := by
  go_enter Try.func148, Try.ntmps148
  go_wp2
  go_ret
  exact ⟨by simp, rfl⟩
theorem isNaN_int64 (a : Int) (w : World) : Calls Try.prog 149 #[.int .i64 a] w fun e w' => e = .returned (.bool false) ∧ w = w' := by
  go_enter Try.func149, Try.ntmps149
  go_wp2
  go_ret
  exact ⟨by simp, rfl⟩
theorem isNaN_string (a : ByteArray) (w : World) : Calls Try.prog 150 #[.string a] w fun e w' => e = .returned (.bool false) ∧ w = w' := by
  go_enter Try.func150, Try.ntmps150
  go_wp2
  go_ret
  exact ⟨by simp, rfl⟩

theorem ret_i {a b : Int} (h : a = b) : Ending.returned (.int .i64 a) = .returned (.int .i64 b) := by rw [h]

theorem compare_int (a b : Int) (w : World) : Calls Try.prog 128 #[.int .i64 a, .int .i64 b] w fun e w' => e = .returned (.int .i64 (cmpI a b)) ∧ w = w' := by
  by_cases h1 : a < b
  · go_enter Try.func128, Try.ntmps128
    go_wp2_with (go_at_call 148; refine (isNaN_int _ _).mono ?_; rintro e w' ⟨rfl, rfl⟩)
    go_ret
    exact ⟨ret_i (by unfold cmpI; rw [if_pos h1]), rfl⟩
  · by_cases h2 : b < a
    · go_enter Try.func128, Try.ntmps128
      go_wp2_with (go_at_call 148; refine (isNaN_int _ _).mono ?_; rintro e w' ⟨rfl, rfl⟩)
      go_ret
      exact ⟨ret_i (by unfold cmpI; rw [if_neg (by omega), if_pos (by omega)]), rfl⟩
    · go_enter Try.func128, Try.ntmps128
      go_wp2_with (go_at_call 148; refine (isNaN_int _ _).mono ?_; rintro e w' ⟨rfl, rfl⟩)
      go_ret
      exact ⟨ret_i (by unfold cmpI; rw [if_neg (by omega), if_neg (by omega)]), rfl⟩
theorem compare_int64 (a b : Int) (w : World) : Calls Try.prog 129 #[.int .i64 a, .int .i64 b] w fun e w' => e = .returned (.int .i64 (cmpI a b)) ∧ w = w' := by
  by_cases h1 : a < b
  · go_enter Try.func129, Try.ntmps129
    go_wp2_with (go_at_call 149; refine (isNaN_int64 _ _).mono ?_; rintro e w' ⟨rfl, rfl⟩)
    go_ret
    exact ⟨ret_i (by unfold cmpI; rw [if_pos h1]), rfl⟩
  · by_cases h2 : b < a
    · go_enter Try.func129, Try.ntmps129
      go_wp2_with (go_at_call 149; refine (isNaN_int64 _ _).mono ?_; rintro e w' ⟨rfl, rfl⟩)
      go_ret
      exact ⟨ret_i (by unfold cmpI; rw [if_neg (by omega), if_pos (by omega)]), rfl⟩
    · go_enter Try.func129, Try.ntmps129
      go_wp2_with (go_at_call 149; refine (isNaN_int64 _ _).mono ?_; rintro e w' ⟨rfl, rfl⟩)
      go_ret
      exact ⟨ret_i (by unfold cmpI; rw [if_neg (by omega), if_neg (by omega)]), rfl⟩

theorem less_T {a b : ByteArray} (h : cmpS a b < 0) : Op.bytesLess a.toList b.toList = true := by rw [less_S]; simpa using h
theorem less_F {a b : ByteArray} (h : ¬ cmpS a b < 0) : Op.bytesLess a.toList b.toList = false := by rw [less_S]; simpa using h
theorem eq_T {a b : ByteArray} (h : cmpS a b = 0) : (a.toList == b.toList) = true := by rw [eq_S]; simpa using h
theorem eq_F {a b : ByteArray} (h : ¬ cmpS a b = 0) : (a.toList == b.toList) = false := by rw [eq_S]; simpa using h

theorem compare_string (a b : ByteArray) (w : World) : Calls Try.prog 130 #[.string a, .string b] w fun e w' => e = .returned (.int .i64 (cmpS a b)) ∧ w = w' := by
  have hr := goodS.range a b
  by_cases h1 : cmpS a b < 0
  · have l1 := less_T h1
    have f1 : cmpS a b = -1 := by omega
    have F := Lib.hid f1
    clear hr h1 f1
    go_enter Try.func130, Try.ntmps130
    go_wp2_with (go_at_call 150; refine (isNaN_string _ _).mono ?_; rintro e w' ⟨rfl, rfl⟩)
    go_ret
    exact ⟨ret_i F.out.symm, rfl⟩
  · by_cases h2 : cmpS a b = 0
    · have l1 := less_F h1
      have l2 := eq_T h2
      have F := Lib.hid h2
      clear hr h1 h2
      go_enter Try.func130, Try.ntmps130
      go_wp2_with (go_at_call 150; refine (isNaN_string _ _).mono ?_; rintro e w' ⟨rfl, rfl⟩)
      go_ret
      exact ⟨ret_i F.out.symm, rfl⟩
    · have l1 := less_F h1
      have l2 := eq_F h2
      have f1 : cmpS a b = 1 := by omega
      have F := Lib.hid f1
      clear hr h1 h2 f1
      go_enter Try.func130, Try.ntmps130
      go_wp2_with (go_at_call 150; refine (isNaN_string _ _).mono ?_; rintro e w' ⟨rfl, rfl⟩)
      go_ret
      exact ⟨ret_i F.out.symm, rfl⟩

/-! A struct result lies in a new block. -/
theorem boolean_calls (n : Int) (w : World) : Calls Try.prog 111 #[.int .i64 n] w fun e w' => e = .returned (V.val ⟨3, n, ByteArray.empty⟩) ∧ Gro w w' := by
  go_enter Try.func111, Try.ntmps111
  go_wp2
  exact bodyPost_ret (v := V.val ⟨3, n, ByteArray.empty⟩) (by simp [results, Try.results111, go_sem, V.val]; try rfl) rfl ⟨rfl, by repeat (first | exact Gro.refl _ | apply Gro.alloc | apply Gro.drew)⟩
theorem integer_calls (n : Int) (w : World) : Calls Try.prog 112 #[.int .i64 n] w fun e w' => e = .returned (V.val ⟨4, n, ByteArray.empty⟩) ∧ Gro w w' := by
  go_enter Try.func112, Try.ntmps112
  go_wp2
  exact bodyPost_ret (v := V.val ⟨4, n, ByteArray.empty⟩) (by simp [results, Try.results112, go_sem, V.val]; try rfl) rfl ⟨rfl, by repeat (first | exact Gro.refl _ | apply Gro.alloc | apply Gro.drew)⟩
theorem text_calls (s : ByteArray) (w : World) : Calls Try.prog 114 #[.string s] w fun e w' => e = .returned (V.val ⟨5, 0, s⟩) ∧ Gro w w' := by
  go_enter Try.func114, Try.ntmps114
  go_wp2
  exact bodyPost_ret (v := V.val ⟨5, 0, s⟩) (by simp [results, Try.results114, go_sem, V.val]; try rfl) rfl ⟨rfl, by repeat (first | exact Gro.refl _ | apply Gro.alloc | apply Gro.drew)⟩
end Go.Proofs.Ytllakifmflploaa
