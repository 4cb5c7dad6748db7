/- The contracts of value.Valid, value.Real and their references. -/
import Derived.Test.YtmjokpakekfkfaaG
set_option linter.unusedSimpArgs false
set_option linter.unusedVariables false
namespace Go.Proofs.Ytmjokpakekfkfaa
open Go.RowKit

/-- '==' of two values. -/
theorem eql_V (k n k' n' : Int) (t t' : ByteArray) (w : World) :
    (binOp .eql 25 (.agg #[.int .i64 k, .int .i64 n, .string t]) (.agg #[.int .i64 k', .int .i64 n', .string t'])).run Try.prog w = .ok (.bool (decide ((⟨k, n, t⟩ : V) = ⟨k', n', t'⟩))) w := by
  have hS : Try.prog.underlying 25 = some (.struct (Try.prog.fieldsOf 25)) := by kernel_rfl
  have hp : Try.prog.stoodInHeld 25 = false := by kernel_rfl
  have u3 := Try.underlying3
  have a3 := Try.isAgg3
  have z3 := Try.sizeOf3
  have u2 := Try.underlying2
  have a2 := Try.isAgg2
  have z2 := Try.sizeOf2
  have u9 := Try.underlying9
  have a9 := Try.isAgg9
  have z9 := Try.sizeOf9
  rw [run_eql_struct, show (10000 : Nat) = 9999 + 1 from rfl, run_equalIn_agg w 9999 25 _ _ hS hp]
  simp only [Program.fieldsOf, Try.underlying25]
  go_simp
  by_cases h1 : k = k' <;> by_cases h2 : n = n' <;> by_cases h3 : t = t' <;> simp [h1, h2, h3]
  exact fun h => h3 (toList_inj h)

/-- The cells of a boxed value, in every world that came of it by growth. -/
theorem box3 (w : World) (x y z : Value) (T : TypeId) (m : Nat) (os : Array Obj) :
    (Sort.grow ((w.alloc (.cells #[x, y, z] T)).drewN m) os).cell? ⟨w.heap.size, 0, none⟩ = some x ∧
    (Sort.grow ((w.alloc (.cells #[x, y, z] T)).drewN m) os).cell? ⟨w.heap.size, 1, none⟩ = some y ∧
    (Sort.grow ((w.alloc (.cells #[x, y, z] T)).drewN m) os).cell? ⟨w.heap.size, 2, none⟩ = some z :=
  ⟨cell_grown (by simp) (by go_simp) m os, cell_grown (by simp) (by go_simp) m os, cell_grown (by simp) (by go_simp) m os⟩
set_option maxHeartbeats 1000000 in
theorem valid_calls (v : V) (w : World) : Calls Try.prog 40 #[v.val] w fun e w' => e = .returned (.bool (validB v)) ∧ Gro w w' := by
  obtain ⟨k, n, t⟩ := v
  have mx := mixed
  have he := eql_V
  have c0 := fun m os => (box3 w (.int .i64 k) (.int .i64 n) (.string t) 25 m os).1
  have c1 := fun m os => (box3 w (.int .i64 k) (.int .i64 n) (.string t) 25 m os).2.1
  have c2 := fun m os => (box3 w (.int .i64 k) (.int .i64 n) (.string t) 25 m os).2.2
  by_cases h1 : k = 1
  · subst h1
    go_enter Try.func40, Try.ntmps40
    go_wp2
    go_ret
    exact ⟨ret_b (by simp [validB, validP, data_empty]), (Gro.refl _).alloc _⟩
  by_cases h2 : k = 2
  · subst h2
    go_enter Try.func40, Try.ntmps40
    go_wp2
    go_ret
    exact ⟨ret_b (by simp [validB, validP, data_empty]), (Gro.refl _).alloc _⟩
  by_cases h3 : k = 3
  · subst h3
    by_cases ht : t = ByteArray.empty
    · subst ht
      by_cases hn : n = 0
      · subst hn
        go_enter Try.func40, Try.ntmps40
        go_wp2_with fail
        go_quiet_grown (first | (go_at_call 61; refine gro_calls (boolean_calls _ _)))
        go_wp2
        go_ret
        exact ⟨ret_b (by simp [validB, validP, data_empty, *] <;> omega), ((Gro.refl _).alloc _).grown _ _⟩
      by_cases hn1 : n = 1
      · subst hn1
        go_enter Try.func40, Try.ntmps40
        go_wp2_with fail
        go_quiet_grown (first | (go_at_call 61; refine gro_calls (boolean_calls _ _)))
        go_wp2
        go_ret
        exact ⟨ret_b (by simp [validB, validP, data_empty, *] <;> omega), ((Gro.refl _).alloc _).grown _ _⟩
      go_enter Try.func40, Try.ntmps40
      go_wp2_with fail
      go_quiet_grown (first | (go_at_call 61; refine gro_calls (boolean_calls _ _)))
      go_wp2
      go_ret
      exact ⟨ret_b (by simp [validB, validP, data_empty, *] <;> omega), ((Gro.refl _).alloc _).grown _ _⟩
    go_enter Try.func40, Try.ntmps40
    go_wp2_with fail
    go_quiet_grown (first | (go_at_call 61; refine gro_calls (boolean_calls _ _)))
    go_wp2
    go_ret
    exact ⟨ret_b (by simp [validB, validP, data_empty, *] <;> omega), ((Gro.refl _).alloc _).grown _ _⟩
  by_cases h4 : k = 4
  · subst h4
    by_cases ht : t = ByteArray.empty
    · subst ht
      go_enter Try.func40, Try.ntmps40
      go_wp2_with fail
      go_quiet_grown (first | (go_at_call 62; refine gro_calls (integer_calls _ _)))
      go_wp2
      go_ret
      exact ⟨ret_b (by simp [validB, validP, data_empty, *] <;> omega), ((Gro.refl _).alloc _).grown _ _⟩
    go_enter Try.func40, Try.ntmps40
    go_wp2_with fail
    go_quiet_grown (first | (go_at_call 62; refine gro_calls (integer_calls _ _)))
    go_wp2
    go_ret
    exact ⟨ret_b (by simp [validB, validP, data_empty, *] <;> omega), ((Gro.refl _).alloc _).grown _ _⟩
  by_cases h5 : k = 5
  · subst h5
    by_cases hn : n = 0
    · subst hn
      by_cases hs : t.size ≤ 64
      · go_enter Try.func40, Try.ntmps40
        go_wp2_with fail
        go_quiet_grown (first | (go_at_call 63; refine gro_calls (text_calls _ _)))
        go_wp2
        go_ret
        exact ⟨ret_b (by simp [validB, validP, data_empty, *] <;> omega), ((Gro.refl _).alloc _).grown _ _⟩
      go_enter Try.func40, Try.ntmps40
      go_wp2_with fail
      go_quiet_grown (first | (go_at_call 63; refine gro_calls (text_calls _ _)))
      go_wp2
      go_ret
      exact ⟨ret_b (by simp [validB, validP, data_empty, *] <;> omega), ((Gro.refl _).alloc _).grown _ _⟩
    go_enter Try.func40, Try.ntmps40
    go_wp2_with fail
    go_quiet_grown (first | (go_at_call 63; refine gro_calls (text_calls _ _)))
    go_wp2
    go_ret
    exact ⟨ret_b (by simp [validB, validP, data_empty, *] <;> omega), ((Gro.refl _).alloc _).grown _ _⟩
  go_enter Try.func40, Try.ntmps40
  go_wp2
  go_ret
  exact ⟨ret_b (by simp [validB, validP, data_empty, *]), (Gro.refl _).alloc _⟩

set_option maxHeartbeats 1000000 in
theorem refValid_calls (v : V) (w : World) : Calls Try.prog 44 #[v.val] w fun e w' => e = .returned (.bool (validB v)) ∧ Gro w w' := by
  obtain ⟨k, n, t⟩ := v
  by_cases ht : t = ByteArray.empty
  · subst ht
    have e0 : ByteArray.empty.toList = [] := (empty_iff _).2 rfl
    by_cases h1 : k = 1
    · subst h1
      by_cases hn : n = 0
      · subst hn
        go_enter Try.func44, Try.ntmps44
        go_wp2
        go_ret
        exact ⟨ret_b (by simp [validB, validP, data_empty, *] <;> omega), (Gro.refl _).alloc _⟩
      go_enter Try.func44, Try.ntmps44
      go_wp2
      go_ret
      exact ⟨ret_b (by simp [validB, validP, data_empty, *] <;> omega), (Gro.refl _).alloc _⟩
    by_cases h2 : k = 2
    · subst h2
      by_cases hn : n = 0
      · subst hn
        go_enter Try.func44, Try.ntmps44
        go_wp2
        go_ret
        exact ⟨ret_b (by simp [validB, validP, data_empty, *] <;> omega), (Gro.refl _).alloc _⟩
      go_enter Try.func44, Try.ntmps44
      go_wp2
      go_ret
      exact ⟨ret_b (by simp [validB, validP, data_empty, *] <;> omega), (Gro.refl _).alloc _⟩
    by_cases h3 : k = 3
    · subst h3
      by_cases hn : n = 0
      · subst hn
        go_enter Try.func44, Try.ntmps44
        go_wp2
        go_ret
        exact ⟨ret_b (by simp [validB, validP, data_empty, *] <;> omega), (Gro.refl _).alloc _⟩
      by_cases hn1 : n = 1
      · subst hn1
        go_enter Try.func44, Try.ntmps44
        go_wp2
        go_ret
        exact ⟨ret_b (by simp [validB, validP, data_empty, *] <;> omega), (Gro.refl _).alloc _⟩
      go_enter Try.func44, Try.ntmps44
      go_wp2
      go_ret
      exact ⟨ret_b (by simp [validB, validP, data_empty, *] <;> omega), (Gro.refl _).alloc _⟩
    by_cases h4 : k = 4
    · subst h4
      go_enter Try.func44, Try.ntmps44
      go_wp2
      go_ret
      exact ⟨ret_b (by simp [validB, validP, data_empty, *] <;> omega), (Gro.refl _).alloc _⟩
    by_cases h5 : k = 5
    · subst h5
      by_cases hn : n = 0
      · subst hn
        go_enter Try.func44, Try.ntmps44
        go_wp2
        go_ret
        exact ⟨ret_b (by simp [validB, validP, data_empty, *] <;> omega), (Gro.refl _).alloc _⟩
      go_enter Try.func44, Try.ntmps44
      go_wp2
      go_ret
      exact ⟨ret_b (by simp [validB, validP, data_empty, *] <;> omega), (Gro.refl _).alloc _⟩
    go_enter Try.func44, Try.ntmps44
    go_wp2
    go_ret
    exact ⟨ret_b (by simp [validB, validP, data_empty, *] <;> omega), (Gro.refl _).alloc _⟩
  · have e0 : t.toList.isEmpty = false := by
      simp; intro h; exact ht ((empty_iff _).1 h)
    by_cases h1 : k = 1
    · subst h1
      by_cases hn : n = 0
      · subst hn
        go_enter Try.func44, Try.ntmps44
        go_wp2
        go_ret
        exact ⟨ret_b (by simp [validB, validP, data_empty, *] <;> omega), (Gro.refl _).alloc _⟩
      go_enter Try.func44, Try.ntmps44
      go_wp2
      go_ret
      exact ⟨ret_b (by simp [validB, validP, data_empty, *] <;> omega), (Gro.refl _).alloc _⟩
    by_cases h2 : k = 2
    · subst h2
      by_cases hn : n = 0
      · subst hn
        go_enter Try.func44, Try.ntmps44
        go_wp2
        go_ret
        exact ⟨ret_b (by simp [validB, validP, data_empty, *] <;> omega), (Gro.refl _).alloc _⟩
      go_enter Try.func44, Try.ntmps44
      go_wp2
      go_ret
      exact ⟨ret_b (by simp [validB, validP, data_empty, *] <;> omega), (Gro.refl _).alloc _⟩
    by_cases h3 : k = 3
    · subst h3
      by_cases hn : n = 0
      · subst hn
        go_enter Try.func44, Try.ntmps44
        go_wp2
        go_ret
        exact ⟨ret_b (by simp [validB, validP, data_empty, *] <;> omega), (Gro.refl _).alloc _⟩
      by_cases hn1 : n = 1
      · subst hn1
        go_enter Try.func44, Try.ntmps44
        go_wp2
        go_ret
        exact ⟨ret_b (by simp [validB, validP, data_empty, *] <;> omega), (Gro.refl _).alloc _⟩
      go_enter Try.func44, Try.ntmps44
      go_wp2
      go_ret
      exact ⟨ret_b (by simp [validB, validP, data_empty, *] <;> omega), (Gro.refl _).alloc _⟩
    by_cases h4 : k = 4
    · subst h4
      go_enter Try.func44, Try.ntmps44
      go_wp2
      go_ret
      exact ⟨ret_b (by simp [validB, validP, data_empty, *] <;> omega), (Gro.refl _).alloc _⟩
    by_cases h5 : k = 5
    · subst h5
      by_cases hn : n = 0
      · subst hn
        by_cases hs : t.size ≤ 64
        · go_enter Try.func44, Try.ntmps44
          go_wp2
          go_ret
          exact ⟨ret_b (by simp [validB, validP, data_empty, *] <;> omega), (Gro.refl _).alloc _⟩
        go_enter Try.func44, Try.ntmps44
        go_wp2
        go_ret
        exact ⟨ret_b (by simp [validB, validP, data_empty, *] <;> omega), (Gro.refl _).alloc _⟩
      go_enter Try.func44, Try.ntmps44
      go_wp2
      go_ret
      exact ⟨ret_b (by simp [validB, validP, data_empty, *] <;> omega), (Gro.refl _).alloc _⟩
    go_enter Try.func44, Try.ntmps44
    go_wp2
    go_ret
    exact ⟨ret_b (by simp [validB, validP, data_empty, *] <;> omega), (Gro.refl _).alloc _⟩
end Go.Proofs.Ytmjokpakekfkfaa
