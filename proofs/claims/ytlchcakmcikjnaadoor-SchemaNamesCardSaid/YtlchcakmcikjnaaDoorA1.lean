/- The contracts of the smallest functions of package value and of cmp: what each returns, whatever it is called with. -/
import Derived.Test.YtlchcakmcikjnaaDoorM
import Derived.WalkKit
import Derived.ProofKit
import Derived.OpenShut
import Derived.WalkLawsBesides
import Derived.WalkSpells
import Derived.Lib.Hide
import Derived.Outline
import Derived.Laws.StructEq
import Derived.Deep.QuietTactic
import Derived.BigQuiet
set_option linter.unusedSimpArgs false
set_option linter.unusedVariables false
namespace Go.Proofs.YtlchcakmcikjnaaDoor
open Go.RowKit

theorem ret_i {a b : Int} (h : a = b) : Ending.returned (.int .i64 a) = .returned (.int .i64 b) := by rw [h]

theorem less_T {a b : ByteArray} (h : cmpS a b < 0) : Op.bytesLess a.toList b.toList = true := by rw [less_S]; simpa using h
theorem less_F {a b : ByteArray} (h : ¬ cmpS a b < 0) : Op.bytesLess a.toList b.toList = false := by rw [less_S]; simpa using h
theorem eq_T {a b : ByteArray} (h : cmpS a b = 0) : (a.toList == b.toList) = true := by rw [eq_S]; simpa using h
theorem eq_F {a b : ByteArray} (h : ¬ cmpS a b = 0) : (a.toList == b.toList) = false := by rw [eq_S]; simpa using h

/-! A struct result lies in a new block. -/
theorem boolean_calls (n : Int) (w : World) : Calls Tryd.prog 59 #[.int .i64 n] w fun e w' => e = .returned (V.val ⟨3, n, ByteArray.empty⟩) ∧ Gro w w' := by
  go_enter Tryd.func59, Tryd.ntmps59
  go_wp2
  exact bodyPost_ret (v := V.val ⟨3, n, ByteArray.empty⟩) (by simp [results, Tryd.results59, go_sem, V.val]; try rfl) rfl ⟨rfl, by repeat (first | exact Gro.refl _ | apply Gro.alloc | apply Gro.drew)⟩
theorem integer_calls (n : Int) (w : World) : Calls Tryd.prog 60 #[.int .i64 n] w fun e w' => e = .returned (V.val ⟨4, n, ByteArray.empty⟩) ∧ Gro w w' := by
  go_enter Tryd.func60, Tryd.ntmps60
  go_wp2
  exact bodyPost_ret (v := V.val ⟨4, n, ByteArray.empty⟩) (by simp [results, Tryd.results60, go_sem, V.val]; try rfl) rfl ⟨rfl, by repeat (first | exact Gro.refl _ | apply Gro.alloc | apply Gro.drew)⟩
theorem text_calls (s : ByteArray) (w : World) : Calls Tryd.prog 61 #[.string s] w fun e w' => e = .returned (V.val ⟨5, 0, s⟩) ∧ Gro w w' := by
  go_enter Tryd.func61, Tryd.ntmps61
  go_wp2
  exact bodyPost_ret (v := V.val ⟨5, 0, s⟩) (by simp [results, Tryd.results61, go_sem, V.val]; try rfl) rfl ⟨rfl, by repeat (first | exact Gro.refl _ | apply Gro.alloc | apply Gro.drew)⟩
end Go.Proofs.YtlchcakmcikjnaaDoor
