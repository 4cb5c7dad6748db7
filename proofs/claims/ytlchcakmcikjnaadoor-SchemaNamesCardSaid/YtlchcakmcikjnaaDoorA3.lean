/- The contracts of value.Compare, value.First and their references. -/
import Derived.Test.YtlchcakmcikjnaaDoorA2
import Derived.StillTailTactics
set_option linter.unusedSimpArgs false
set_option linter.unusedVariables false
namespace Go.Proofs.YtlchcakmcikjnaaDoor
open Go.RowKit

/-- What both First's return. -/
def firstV (k : Int) : V := if k = 4 then ⟨4, -9223372036854775808, ByteArray.empty⟩ else if k = 1 ∨ k = 2 ∨ k = 3 ∨ k = 5 then ⟨k, 0, ByteArray.empty⟩ else ⟨0, 0, ByteArray.empty⟩
def firstB (k : Int) : Bool := decide (k = 1 ∨ k = 2 ∨ k = 3 ∨ k = 4 ∨ k = 5)

theorem first_calls (k : Int) (w : World) : Calls Tryd.prog 79 #[.int .i64 k] w fun e w' => e = .returned (.tuple #[(firstV k).val, .bool (firstB k)]) ∧ Gro w w' := by
  by_cases h4 : k = 4
  · subst h4
    go_enter Tryd.func79, Tryd.ntmps79
    go_wp2_with (go_at_call 60; refine (wide (integer_calls _ _)).mono ?_; rintro e w' ⟨q, os, rfl, rfl⟩)
    exact bodyPost_ret (v := .tuple #[(firstV 4).val, .bool (firstB 4)]) (by simp [results, Tryd.results79, go_sem, firstV, firstB, V.val]; try rfl) rfl ⟨rfl, by first | exact (Gro.refl _).alloc _ | exact ((Gro.refl _).alloc _).grown _ _⟩
  by_cases h1 : k = 1
  · subst h1
    go_enter Tryd.func79, Tryd.ntmps79
    go_wp2_with (go_at_call 60; refine (wide (integer_calls _ _)).mono ?_; rintro e w' ⟨q, os, rfl, rfl⟩)
    exact bodyPost_ret (v := .tuple #[(firstV 1).val, .bool (firstB 1)]) (by simp [results, Tryd.results79, go_sem, firstV, firstB, V.val]; try rfl) rfl ⟨rfl, by first | exact (Gro.refl _).alloc _ | exact ((Gro.refl _).alloc _).grown _ _⟩
  by_cases h2 : k = 2
  · subst h2
    go_enter Tryd.func79, Tryd.ntmps79
    go_wp2_with (go_at_call 60; refine (wide (integer_calls _ _)).mono ?_; rintro e w' ⟨q, os, rfl, rfl⟩)
    exact bodyPost_ret (v := .tuple #[(firstV 2).val, .bool (firstB 2)]) (by simp [results, Tryd.results79, go_sem, firstV, firstB, V.val]; try rfl) rfl ⟨rfl, by first | exact (Gro.refl _).alloc _ | exact ((Gro.refl _).alloc _).grown _ _⟩
  by_cases h3 : k = 3
  · subst h3
    go_enter Tryd.func79, Tryd.ntmps79
    go_wp2_with (go_at_call 60; refine (wide (integer_calls _ _)).mono ?_; rintro e w' ⟨q, os, rfl, rfl⟩)
    exact bodyPost_ret (v := .tuple #[(firstV 3).val, .bool (firstB 3)]) (by simp [results, Tryd.results79, go_sem, firstV, firstB, V.val]; try rfl) rfl ⟨rfl, by first | exact (Gro.refl _).alloc _ | exact ((Gro.refl _).alloc _).grown _ _⟩
  by_cases h5 : k = 5
  · subst h5
    go_enter Tryd.func79, Tryd.ntmps79
    go_wp2_with (go_at_call 60; refine (wide (integer_calls _ _)).mono ?_; rintro e w' ⟨q, os, rfl, rfl⟩)
    exact bodyPost_ret (v := .tuple #[(firstV 5).val, .bool (firstB 5)]) (by simp [results, Tryd.results79, go_sem, firstV, firstB, V.val]; try rfl) rfl ⟨rfl, by first | exact (Gro.refl _).alloc _ | exact ((Gro.refl _).alloc _).grown _ _⟩
  have hv : firstV k = ⟨0, 0, ByteArray.empty⟩ := by simp [firstV, *]
  have hb : firstB k = false := by simp [firstB, *]
  rw [hv, hb]
  clear hv hb
  go_enter Tryd.func79, Tryd.ntmps79
  go_wp2
  exact bodyPost_ret (v := .tuple #[V.val ⟨0, 0, ByteArray.empty⟩, .bool false]) (by simp [results, Tryd.results79, go_sem, V.val]; try rfl) rfl ⟨rfl, (Gro.refl _).alloc _⟩

/-- The first of three numbers that is not 0. -/
def or3 (a b c : Int) : Int := if a = 0 then (if b = 0 then c else b) else a
theorem or3_cmp (k n k' n' : Int) (t t' : ByteArray) : or3 (cmpI k k') (cmpI n n') (cmpS t t') = cmpV ⟨k, n, t⟩ ⟨k', n', t'⟩ := rfl

theorem refCompare_calls (a b : V) (w : World) : Calls Tryd.prog 42 #[a.val, b.val] w fun e w' => e = .returned (.int .i64 (cmpV a b)) ∧ Gro w w' := by
  obtain ⟨k, n, t⟩ := a
  obtain ⟨k', n', t'⟩ := b
  by_cases h1 : k < k'
  · have F : Hid (cmpV ⟨k, n, t⟩ ⟨k', n', t'⟩ = -1) := by show _ = _; unfold cmpV cmpI; simp only; rw [if_pos h1]; simp
    go_enter Tryd.func42, Tryd.ntmps42
    go_wp2
    go_ret
    exact ⟨ret_i F.out.symm, ((Gro.refl _).alloc _).alloc _⟩
  by_cases h2 : k' < k
  · have F : Hid (cmpV ⟨k, n, t⟩ ⟨k', n', t'⟩ = 1) := by show _ = _; unfold cmpV cmpI; simp only; rw [if_neg h1, if_pos h2]; simp
    go_enter Tryd.func42, Tryd.ntmps42
    go_wp2
    go_ret
    exact ⟨ret_i F.out.symm, ((Gro.refl _).alloc _).alloc _⟩
  obtain rfl : k = k' := by omega
  clear h1 h2
  by_cases h1 : n < n'
  · have F : Hid (cmpV ⟨k, n, t⟩ ⟨k, n', t'⟩ = -1) := by show _ = _; unfold cmpV; simp only; rw [goodI.self]; unfold cmpI; rw [if_pos h1]; simp
    go_enter Tryd.func42, Tryd.ntmps42
    go_wp2
    go_ret
    exact ⟨ret_i F.out.symm, ((Gro.refl _).alloc _).alloc _⟩
  by_cases h2 : n' < n
  · have F : Hid (cmpV ⟨k, n, t⟩ ⟨k, n', t'⟩ = 1) := by show _ = _; unfold cmpV; simp only; rw [goodI.self]; unfold cmpI; rw [if_neg h1, if_pos h2]; simp
    go_enter Tryd.func42, Tryd.ntmps42
    go_wp2
    go_ret
    exact ⟨ret_i F.out.symm, ((Gro.refl _).alloc _).alloc _⟩
  obtain rfl : n = n' := by omega
  clear h1 h2
  have fs : cmpV ⟨k, n, t⟩ ⟨k, n, t'⟩ = cmpS t t' := by unfold cmpV; simp only; rw [goodI.self, goodI.self]; simp
  have hr := goodS.range t t'
  rw [fs]
  clear fs
  by_cases h1 : cmpS t t' < 0
  · have l1 := less_T h1
    have F : Hid (cmpS t t' = -1) := by show _ = _; omega
    clear hr h1
    go_enter Tryd.func42, Tryd.ntmps42
    go_wp2
    go_ret
    exact ⟨ret_i F.out.symm, ((Gro.refl _).alloc _).alloc _⟩
  have l1 := less_F h1
  by_cases h2 : cmpS t t' = 0
  · have l2 := eq_T h2
    have F := Lib.hid h2
    clear hr h1 h2
    go_enter Tryd.func42, Tryd.ntmps42
    go_wp2
    go_ret
    exact ⟨ret_i F.out.symm, ((Gro.refl _).alloc _).alloc _⟩
  · have l2 := eq_F h2
    have F : Hid (cmpS t t' = 1) := by show _ = _; omega
    clear hr h1 h2
    go_enter Tryd.func42, Tryd.ntmps42
    go_wp2
    go_ret
    exact ⟨ret_i F.out.symm, ((Gro.refl _).alloc _).alloc _⟩
end Go.Proofs.YtlchcakmcikjnaaDoor
