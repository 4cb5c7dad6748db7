/- The contracts of value.Valid, value.Real and their references. -/
import Derived.Test.YtpmlhgakbpfgmaaDoorA1
import Derived.StillTailTactics
set_option linter.unusedSimpArgs false
set_option linter.unusedVariables false
namespace Go.Proofs.YtpmlhgakbpfgmaaDoor
open Go.RowKit

/-- '==' of two values. -/
theorem eql_V (k n k' n' : Int) (t t' : ByteArray) (w : World) :
    (binOp .eql 56 (.agg #[.int .i64 k, .int .i64 n, .string t]) (.agg #[.int .i64 k', .int .i64 n', .string t'])).run Tryd.prog w = .ok (.bool (decide ((⟨k, n, t⟩ : V) = ⟨k', n', t'⟩))) w := by
  have hS : Tryd.prog.underlying 56 = some (.struct (Tryd.prog.fieldsOf 56)) := by kernel_rfl
  have hp : Tryd.prog.stoodInHeld 56 = false := by kernel_rfl
  have u3 := Tryd.underlying3
  have a3 := Tryd.isAgg3
  have z3 := Tryd.sizeOf3
  have u2 := Tryd.underlying2
  have a2 := Tryd.isAgg2
  have z2 := Tryd.sizeOf2
  have u9 := Tryd.underlying9
  have a9 := Tryd.isAgg9
  have z9 := Tryd.sizeOf9
  rw [run_eql_struct, show (10000 : Nat) = 9999 + 1 from rfl, run_equalIn_agg w 9999 56 _ _ hS hp]
  simp only [Program.fieldsOf, Tryd.underlying56]
  go_simp
  by_cases h1 : k = k' <;> by_cases h2 : n = n' <;> by_cases h3 : t = t' <;> simp [h1, h2, h3]
  exact fun h => h3 (toList_inj h)

/-- The cells of a boxed value, in every world that came of it by growth. -/
theorem box3 (w : World) (x y z : Value) (T : TypeId) (m : Nat) (os : Array Obj) :
    (Sort.grow ((w.alloc (.cells #[x, y, z] T)).drewN m) os).cell? ⟨w.heap.size, 0, none⟩ = some x ∧
    (Sort.grow ((w.alloc (.cells #[x, y, z] T)).drewN m) os).cell? ⟨w.heap.size, 1, none⟩ = some y ∧
    (Sort.grow ((w.alloc (.cells #[x, y, z] T)).drewN m) os).cell? ⟨w.heap.size, 2, none⟩ = some z :=
  ⟨cell_grown (by simp) (by go_simp) m os, cell_grown (by simp) (by go_simp) m os, cell_grown (by simp) (by go_simp) m os⟩
set_option maxHeartbeats 1000000 in
theorem valid_calls (v : V) (w : World) : Calls Tryd.prog 41 #[v.val] w fun e w' => e = .returned (.bool (validB v)) ∧ Gro w w' := by
  obtain ⟨k, n, t⟩ := v
  have mx := mixed
  have he := eql_V
  have c0 := fun m os => (box3 w (.int .i64 k) (.int .i64 n) (.string t) 56 m os).1
  have c1 := fun m os => (box3 w (.int .i64 k) (.int .i64 n) (.string t) 56 m os).2.1
  have c2 := fun m os => (box3 w (.int .i64 k) (.int .i64 n) (.string t) 56 m os).2.2
  by_cases h1 : k = 1
  · subst h1
    go_enter Tryd.func41, Tryd.ntmps41
    go_wp2
    go_ret
    exact ⟨ret_b (by simp [validB, validP, data_empty]), (Gro.refl _).alloc _⟩
  by_cases h2 : k = 2
  · subst h2
    go_enter Tryd.func41, Tryd.ntmps41
    go_wp2
    go_ret
    exact ⟨ret_b (by simp [validB, validP, data_empty]), (Gro.refl _).alloc _⟩
  by_cases h3 : k = 3
  · subst h3
    by_cases ht : t = ByteArray.empty
    · subst ht
      by_cases hn : n = 0
      · subst hn
        go_enter Tryd.func41, Tryd.ntmps41
        go_wp2_with fail
        go_quiet_grown (first | (go_at_call 54; refine gro_calls (boolean_calls _ _)))
        go_wp2
        go_ret
        exact ⟨ret_b (by simp [validB, validP, data_empty, *] <;> omega), ((Gro.refl _).alloc _).grown _ _⟩
      by_cases hn1 : n = 1
      · subst hn1
        go_enter Tryd.func41, Tryd.ntmps41
        go_wp2_with fail
        go_quiet_grown (first | (go_at_call 54; refine gro_calls (boolean_calls _ _)))
        go_wp2
        go_ret
        exact ⟨ret_b (by simp [validB, validP, data_empty, *] <;> omega), ((Gro.refl _).alloc _).grown _ _⟩
      go_enter Tryd.func41, Tryd.ntmps41
      go_wp2_with fail
      go_quiet_grown (first | (go_at_call 54; refine gro_calls (boolean_calls _ _)))
      go_wp2
      go_ret
      exact ⟨ret_b (by simp [validB, validP, data_empty, *] <;> omega), ((Gro.refl _).alloc _).grown _ _⟩
    go_enter Tryd.func41, Tryd.ntmps41
    go_wp2_with fail
    go_quiet_grown (first | (go_at_call 54; refine gro_calls (boolean_calls _ _)))
    go_wp2
    go_ret
    exact ⟨ret_b (by simp [validB, validP, data_empty, *] <;> omega), ((Gro.refl _).alloc _).grown _ _⟩
  by_cases h4 : k = 4
  · subst h4
    by_cases ht : t = ByteArray.empty
    · subst ht
      go_enter Tryd.func41, Tryd.ntmps41
      go_wp2_with fail
      go_quiet_grown (first | (go_at_call 55; refine gro_calls (integer_calls _ _)))
      go_wp2
      go_ret
      exact ⟨ret_b (by simp [validB, validP, data_empty, *] <;> omega), ((Gro.refl _).alloc _).grown _ _⟩
    go_enter Tryd.func41, Tryd.ntmps41
    go_wp2_with fail
    go_quiet_grown (first | (go_at_call 55; refine gro_calls (integer_calls _ _)))
    go_wp2
    go_ret
    exact ⟨ret_b (by simp [validB, validP, data_empty, *] <;> omega), ((Gro.refl _).alloc _).grown _ _⟩
  by_cases h5 : k = 5
  · subst h5
    by_cases hn : n = 0
    · subst hn
      by_cases hs : t.size ≤ 64
      · go_enter Tryd.func41, Tryd.ntmps41
        go_wp2_with fail
        go_quiet_grown (first | (go_at_call 56; refine gro_calls (text_calls _ _)))
        go_wp2
        go_ret
        exact ⟨ret_b (by simp [validB, validP, data_empty, *] <;> omega), ((Gro.refl _).alloc _).grown _ _⟩
      go_enter Tryd.func41, Tryd.ntmps41
      go_wp2_with fail
      go_quiet_grown (first | (go_at_call 56; refine gro_calls (text_calls _ _)))
      go_wp2
      go_ret
      exact ⟨ret_b (by simp [validB, validP, data_empty, *] <;> omega), ((Gro.refl _).alloc _).grown _ _⟩
    go_enter Tryd.func41, Tryd.ntmps41
    go_wp2_with fail
    go_quiet_grown (first | (go_at_call 56; refine gro_calls (text_calls _ _)))
    go_wp2
    go_ret
    exact ⟨ret_b (by simp [validB, validP, data_empty, *] <;> omega), ((Gro.refl _).alloc _).grown _ _⟩
  go_enter Tryd.func41, Tryd.ntmps41
  go_wp2
  go_ret
  exact ⟨ret_b (by simp [validB, validP, data_empty, *]), (Gro.refl _).alloc _⟩

theorem real_calls (v : V) (w : World) : Calls Tryd.prog 76 #[v.val] w fun e w' => e = .returned (.bool (realB v)) ∧ Gro w w' := by
  obtain ⟨k, n, t⟩ := v
  have c0 := fun m os => (box3 w (.int .i64 k) (.int .i64 n) (.string t) 56 m os).1
  by_cases hv : validB ⟨k, n, t⟩ = true
  · by_cases hk : 3 ≤ k
    · have hr : realB ⟨k, n, t⟩ = true := by simp [realB, hv, hk]
      rw [hr]
      have Hv := Lib.hid hv
      clear hr hv
      go_enter Tryd.func76, Tryd.ntmps76
      go_wp2_with (go_at_call 41; refine (valid_calls ⟨k, n, t⟩ _).mono ?_; rw [Hv.out]; rintro e w' ⟨rfl, hg⟩; obtain ⟨q, os, rfl⟩ := hg.grow; clear hg)
      go_ret
      exact ⟨rfl, ((Gro.refl _).alloc _).grown _ _⟩
    · have hr : realB ⟨k, n, t⟩ = false := by simp [realB, hv, hk]
      have hk' : decide (3 ≤ k) = false := by simpa using hk
      rw [hr]
      have Hv := Lib.hid hv
      clear hr hv
      go_enter Tryd.func76, Tryd.ntmps76
      go_wp2_with (go_at_call 41; refine (valid_calls ⟨k, n, t⟩ _).mono ?_; rw [Hv.out]; rintro e w' ⟨rfl, hg⟩; obtain ⟨q, os, rfl⟩ := hg.grow; clear hg)
      go_ret
      exact ⟨rfl, ((Gro.refl _).alloc _).grown _ _⟩
  · simp only [Bool.not_eq_true] at hv
    have hr : realB ⟨k, n, t⟩ = false := by simp [realB, hv]
    rw [hr]
    have Hv := Lib.hid hv
    clear hr hv
    go_enter Tryd.func76, Tryd.ntmps76
    go_wp2_with (go_at_call 41; refine (valid_calls ⟨k, n, t⟩ _).mono ?_; rw [Hv.out]; rintro e w' ⟨rfl, hg⟩; obtain ⟨q, os, rfl⟩ := hg.grow; clear hg)
    go_ret
    exact ⟨rfl, ((Gro.refl _).alloc _).grown _ _⟩

set_option maxHeartbeats 1000000 in
theorem refValid_calls (v : V) (w : World) : Calls Tryd.prog 83 #[v.val] w fun e w' => e = .returned (.bool (validB v)) ∧ Gro w w' := by
  obtain ⟨k, n, t⟩ := v
  by_cases ht : t = ByteArray.empty
  · subst ht
    have e0 : ByteArray.empty.toList = [] := (empty_iff _).2 rfl
    by_cases h1 : k = 1
    · subst h1
      by_cases hn : n = 0
      · subst hn
        go_enter Tryd.func83, Tryd.ntmps83
        go_wp2
        go_ret
        exact ⟨ret_b (by simp [validB, validP, data_empty, *] <;> omega), (Gro.refl _).alloc _⟩
      go_enter Tryd.func83, Tryd.ntmps83
      go_wp2
      go_ret
      exact ⟨ret_b (by simp [validB, validP, data_empty, *] <;> omega), (Gro.refl _).alloc _⟩
    by_cases h2 : k = 2
    · subst h2
      by_cases hn : n = 0
      · subst hn
        go_enter Tryd.func83, Tryd.ntmps83
        go_wp2
        go_ret
        exact ⟨ret_b (by simp [validB, validP, data_empty, *] <;> omega), (Gro.refl _).alloc _⟩
      go_enter Tryd.func83, Tryd.ntmps83
      go_wp2
      go_ret
      exact ⟨ret_b (by simp [validB, validP, data_empty, *] <;> omega), (Gro.refl _).alloc _⟩
    by_cases h3 : k = 3
    · subst h3
      by_cases hn : n = 0
      · subst hn
        go_enter Tryd.func83, Tryd.ntmps83
        go_wp2
        go_ret
        exact ⟨ret_b (by simp [validB, validP, data_empty, *] <;> omega), (Gro.refl _).alloc _⟩
      by_cases hn1 : n = 1
      · subst hn1
        go_enter Tryd.func83, Tryd.ntmps83
        go_wp2
        go_ret
        exact ⟨ret_b (by simp [validB, validP, data_empty, *] <;> omega), (Gro.refl _).alloc _⟩
      go_enter Tryd.func83, Tryd.ntmps83
      go_wp2
      go_ret
      exact ⟨ret_b (by simp [validB, validP, data_empty, *] <;> omega), (Gro.refl _).alloc _⟩
    by_cases h4 : k = 4
    · subst h4
      go_enter Tryd.func83, Tryd.ntmps83
      go_wp2
      go_ret
      exact ⟨ret_b (by simp [validB, validP, data_empty, *] <;> omega), (Gro.refl _).alloc _⟩
    by_cases h5 : k = 5
    · subst h5
      by_cases hn : n = 0
      · subst hn
        go_enter Tryd.func83, Tryd.ntmps83
        go_wp2
        go_ret
        exact ⟨ret_b (by simp [validB, validP, data_empty, *] <;> omega), (Gro.refl _).alloc _⟩
      go_enter Tryd.func83, Tryd.ntmps83
      go_wp2
      go_ret
      exact ⟨ret_b (by simp [validB, validP, data_empty, *] <;> omega), (Gro.refl _).alloc _⟩
    go_enter Tryd.func83, Tryd.ntmps83
    go_wp2
    go_ret
    exact ⟨ret_b (by simp [validB, validP, data_empty, *] <;> omega), (Gro.refl _).alloc _⟩
  · have e0 : t.toList.isEmpty = false := by
      simp; intro h; exact ht ((empty_iff _).1 h)
    by_cases h1 : k = 1
    · subst h1
      by_cases hn : n = 0
      · subst hn
        go_enter Tryd.func83, Tryd.ntmps83
        go_wp2
        go_ret
        exact ⟨ret_b (by simp [validB, validP, data_empty, *] <;> omega), (Gro.refl _).alloc _⟩
      go_enter Tryd.func83, Tryd.ntmps83
      go_wp2
      go_ret
      exact ⟨ret_b (by simp [validB, validP, data_empty, *] <;> omega), (Gro.refl _).alloc _⟩
    by_cases h2 : k = 2
    · subst h2
      by_cases hn : n = 0
      · subst hn
        go_enter Tryd.func83, Tryd.ntmps83
        go_wp2
        go_ret
        exact ⟨ret_b (by simp [validB, validP, data_empty, *] <;> omega), (Gro.refl _).alloc _⟩
      go_enter Tryd.func83, Tryd.ntmps83
      go_wp2
      go_ret
      exact ⟨ret_b (by simp [validB, validP, data_empty, *] <;> omega), (Gro.refl _).alloc _⟩
    by_cases h3 : k = 3
    · subst h3
      by_cases hn : n = 0
      · subst hn
        go_enter Tryd.func83, Tryd.ntmps83
        go_wp2
        go_ret
        exact ⟨ret_b (by simp [validB, validP, data_empty, *] <;> omega), (Gro.refl _).alloc _⟩
      by_cases hn1 : n = 1
      · subst hn1
        go_enter Tryd.func83, Tryd.ntmps83
        go_wp2
        go_ret
        exact ⟨ret_b (by simp [validB, validP, data_empty, *] <;> omega), (Gro.refl _).alloc _⟩
      go_enter Tryd.func83, Tryd.ntmps83
      go_wp2
      go_ret
      exact ⟨ret_b (by simp [validB, validP, data_empty, *] <;> omega), (Gro.refl _).alloc _⟩
    by_cases h4 : k = 4
    · subst h4
      go_enter Tryd.func83, Tryd.ntmps83
      go_wp2
      go_ret
      exact ⟨ret_b (by simp [validB, validP, data_empty, *] <;> omega), (Gro.refl _).alloc _⟩
    by_cases h5 : k = 5
    · subst h5
      by_cases hn : n = 0
      · subst hn
        by_cases hs : t.size ≤ 64
        · go_enter Tryd.func83, Tryd.ntmps83
          go_wp2
          go_ret
          exact ⟨ret_b (by simp [validB, validP, data_empty, *] <;> omega), (Gro.refl _).alloc _⟩
        go_enter Tryd.func83, Tryd.ntmps83
        go_wp2
        go_ret
        exact ⟨ret_b (by simp [validB, validP, data_empty, *] <;> omega), (Gro.refl _).alloc _⟩
      go_enter Tryd.func83, Tryd.ntmps83
      go_wp2
      go_ret
      exact ⟨ret_b (by simp [validB, validP, data_empty, *] <;> omega), (Gro.refl _).alloc _⟩
    go_enter Tryd.func83, Tryd.ntmps83
    go_wp2
    go_ret
    exact ⟨ret_b (by simp [validB, validP, data_empty, *] <;> omega), (Gro.refl _).alloc _⟩
theorem refReal_calls (v : V) (w : World) : Calls Tryd.prog 73 #[v.val] w fun e w' => e = .returned (.bool (realB v)) ∧ Gro w w' := by
  obtain ⟨k, n, t⟩ := v
  have c0 := fun m os => (box3 w (.int .i64 k) (.int .i64 n) (.string t) 56 m os).1
  by_cases hv : validB ⟨k, n, t⟩ = true
  · by_cases hk : 3 ≤ k
    · have hr : realB ⟨k, n, t⟩ = true := by simp [realB, hv, hk]
      rw [hr]
      have Hv := Lib.hid hv
      clear hr hv
      go_enter Tryd.func73, Tryd.ntmps73
      go_wp2_with (go_at_call 83; refine (refValid_calls ⟨k, n, t⟩ _).mono ?_; rw [Hv.out]; rintro e w' ⟨rfl, hg⟩; obtain ⟨q, os, rfl⟩ := hg.grow; clear hg)
      go_ret
      exact ⟨rfl, ((Gro.refl _).alloc _).grown _ _⟩
    · have hr : realB ⟨k, n, t⟩ = false := by simp [realB, hv, hk]
      have hk' : decide (3 ≤ k) = false := by simpa using hk
      rw [hr]
      have Hv := Lib.hid hv
      clear hr hv
      go_enter Tryd.func73, Tryd.ntmps73
      go_wp2_with (go_at_call 83; refine (refValid_calls ⟨k, n, t⟩ _).mono ?_; rw [Hv.out]; rintro e w' ⟨rfl, hg⟩; obtain ⟨q, os, rfl⟩ := hg.grow; clear hg)
      go_ret
      exact ⟨rfl, ((Gro.refl _).alloc _).grown _ _⟩
  · simp only [Bool.not_eq_true] at hv
    have hr : realB ⟨k, n, t⟩ = false := by simp [realB, hv]
    rw [hr]
    have Hv := Lib.hid hv
    clear hr hv
    go_enter Tryd.func73, Tryd.ntmps73
    go_wp2_with (go_at_call 83; refine (refValid_calls ⟨k, n, t⟩ _).mono ?_; rw [Hv.out]; rintro e w' ⟨rfl, hg⟩; obtain ⟨q, os, rfl⟩ := hg.grow; clear hg)
    go_ret
    exact ⟨rfl, ((Gro.refl _).alloc _).grown _ _⟩
end Go.Proofs.YtpmlhgakbpfgmaaDoor
/- The contracts of value.Compare, value.First and their references. -/
set_option linter.unusedSimpArgs false
set_option linter.unusedVariables false
namespace Go.Proofs.YtpmlhgakbpfgmaaDoor
open Go.RowKit

/-- What both First's return. -/
def firstV (k : Int) : V := if k = 4 then ⟨4, -9223372036854775808, ByteArray.empty⟩ else if k = 1 ∨ k = 2 ∨ k = 3 ∨ k = 5 then ⟨k, 0, ByteArray.empty⟩ else ⟨0, 0, ByteArray.empty⟩
def firstB (k : Int) : Bool := decide (k = 1 ∨ k = 2 ∨ k = 3 ∨ k = 4 ∨ k = 5)

theorem first_calls (k : Int) (w : World) : Calls Tryd.prog 75 #[.int .i64 k] w fun e w' => e = .returned (.tuple #[(firstV k).val, .bool (firstB k)]) ∧ Gro w w' := by
  by_cases h4 : k = 4
  · subst h4
    go_enter Tryd.func75, Tryd.ntmps75
    go_wp2_with (go_at_call 55; refine (wide (integer_calls _ _)).mono ?_; rintro e w' ⟨q, os, rfl, rfl⟩)
    exact bodyPost_ret (v := .tuple #[(firstV 4).val, .bool (firstB 4)]) (by simp [results, Tryd.results75, go_sem, firstV, firstB, V.val]; try rfl) rfl ⟨rfl, by first | exact (Gro.refl _).alloc _ | exact ((Gro.refl _).alloc _).grown _ _⟩
  by_cases h1 : k = 1
  · subst h1
    go_enter Tryd.func75, Tryd.ntmps75
    go_wp2_with (go_at_call 55; refine (wide (integer_calls _ _)).mono ?_; rintro e w' ⟨q, os, rfl, rfl⟩)
    exact bodyPost_ret (v := .tuple #[(firstV 1).val, .bool (firstB 1)]) (by simp [results, Tryd.results75, go_sem, firstV, firstB, V.val]; try rfl) rfl ⟨rfl, by first | exact (Gro.refl _).alloc _ | exact ((Gro.refl _).alloc _).grown _ _⟩
  by_cases h2 : k = 2
  · subst h2
    go_enter Tryd.func75, Tryd.ntmps75
    go_wp2_with (go_at_call 55; refine (wide (integer_calls _ _)).mono ?_; rintro e w' ⟨q, os, rfl, rfl⟩)
    exact bodyPost_ret (v := .tuple #[(firstV 2).val, .bool (firstB 2)]) (by simp [results, Tryd.results75, go_sem, firstV, firstB, V.val]; try rfl) rfl ⟨rfl, by first | exact (Gro.refl _).alloc _ | exact ((Gro.refl _).alloc _).grown _ _⟩
  by_cases h3 : k = 3
  · subst h3
    go_enter Tryd.func75, Tryd.ntmps75
    go_wp2_with (go_at_call 55; refine (wide (integer_calls _ _)).mono ?_; rintro e w' ⟨q, os, rfl, rfl⟩)
    exact bodyPost_ret (v := .tuple #[(firstV 3).val, .bool (firstB 3)]) (by simp [results, Tryd.results75, go_sem, firstV, firstB, V.val]; try rfl) rfl ⟨rfl, by first | exact (Gro.refl _).alloc _ | exact ((Gro.refl _).alloc _).grown _ _⟩
  by_cases h5 : k = 5
  · subst h5
    go_enter Tryd.func75, Tryd.ntmps75
    go_wp2_with (go_at_call 55; refine (wide (integer_calls _ _)).mono ?_; rintro e w' ⟨q, os, rfl, rfl⟩)
    exact bodyPost_ret (v := .tuple #[(firstV 5).val, .bool (firstB 5)]) (by simp [results, Tryd.results75, go_sem, firstV, firstB, V.val]; try rfl) rfl ⟨rfl, by first | exact (Gro.refl _).alloc _ | exact ((Gro.refl _).alloc _).grown _ _⟩
  have hv : firstV k = ⟨0, 0, ByteArray.empty⟩ := by simp [firstV, *]
  have hb : firstB k = false := by simp [firstB, *]
  rw [hv, hb]
  clear hv hb
  go_enter Tryd.func75, Tryd.ntmps75
  go_wp2
  exact bodyPost_ret (v := .tuple #[V.val ⟨0, 0, ByteArray.empty⟩, .bool false]) (by simp [results, Tryd.results75, go_sem, V.val]; try rfl) rfl ⟨rfl, (Gro.refl _).alloc _⟩

/-- The first of three numbers that is not 0. -/
def or3 (a b c : Int) : Int := if a = 0 then (if b = 0 then c else b) else a
theorem or3_cmp (k n k' n' : Int) (t t' : ByteArray) : or3 (cmpI k k') (cmpI n n') (cmpS t t') = cmpV ⟨k, n, t⟩ ⟨k', n', t'⟩ := rfl

theorem refCompare_calls (a b : V) (w : World) : Calls Tryd.prog 27 #[a.val, b.val] w fun e w' => e = .returned (.int .i64 (cmpV a b)) ∧ Gro w w' := by
  obtain ⟨k, n, t⟩ := a
  obtain ⟨k', n', t'⟩ := b
  by_cases h1 : k < k'
  · have F : Hid (cmpV ⟨k, n, t⟩ ⟨k', n', t'⟩ = -1) := by show _ = _; unfold cmpV cmpI; simp only; rw [if_pos h1]; simp
    go_enter Tryd.func27, Tryd.ntmps27
    go_wp2
    go_ret
    exact ⟨ret_i F.out.symm, ((Gro.refl _).alloc _).alloc _⟩
  by_cases h2 : k' < k
  · have F : Hid (cmpV ⟨k, n, t⟩ ⟨k', n', t'⟩ = 1) := by show _ = _; unfold cmpV cmpI; simp only; rw [if_neg h1, if_pos h2]; simp
    go_enter Tryd.func27, Tryd.ntmps27
    go_wp2
    go_ret
    exact ⟨ret_i F.out.symm, ((Gro.refl _).alloc _).alloc _⟩
  obtain rfl : k = k' := by omega
  clear h1 h2
  by_cases h1 : n < n'
  · have F : Hid (cmpV ⟨k, n, t⟩ ⟨k, n', t'⟩ = -1) := by show _ = _; unfold cmpV; simp only; rw [goodI.self]; unfold cmpI; rw [if_pos h1]; simp
    go_enter Tryd.func27, Tryd.ntmps27
    go_wp2
    go_ret
    exact ⟨ret_i F.out.symm, ((Gro.refl _).alloc _).alloc _⟩
  by_cases h2 : n' < n
  · have F : Hid (cmpV ⟨k, n, t⟩ ⟨k, n', t'⟩ = 1) := by show _ = _; unfold cmpV; simp only; rw [goodI.self]; unfold cmpI; rw [if_neg h1, if_pos h2]; simp
    go_enter Tryd.func27, Tryd.ntmps27
    go_wp2
    go_ret
    exact ⟨ret_i F.out.symm, ((Gro.refl _).alloc _).alloc _⟩
  obtain rfl : n = n' := by omega
  clear h1 h2
  have fs : cmpV ⟨k, n, t⟩ ⟨k, n, t'⟩ = cmpS t t' := by unfold cmpV; simp only; rw [goodI.self, goodI.self]; simp
  have hr := goodS.range t t'
  rw [fs]
  clear fs
  by_cases h1 : cmpS t t' < 0
  · have l1 := less_T h1
    have F : Hid (cmpS t t' = -1) := by show _ = _; omega
    clear hr h1
    go_enter Tryd.func27, Tryd.ntmps27
    go_wp2
    go_ret
    exact ⟨ret_i F.out.symm, ((Gro.refl _).alloc _).alloc _⟩
  have l1 := less_F h1
  by_cases h2 : cmpS t t' = 0
  · have l2 := eq_T h2
    have F := Lib.hid h2
    clear hr h1 h2
    go_enter Tryd.func27, Tryd.ntmps27
    go_wp2
    go_ret
    exact ⟨ret_i F.out.symm, ((Gro.refl _).alloc _).alloc _⟩
  · have l2 := eq_F h2
    have F : Hid (cmpS t t' = 1) := by show _ = _; omega
    clear hr h1 h2
    go_enter Tryd.func27, Tryd.ntmps27
    go_wp2
    go_ret
    exact ⟨ret_i F.out.symm, ((Gro.refl _).alloc _).alloc _⟩
end Go.Proofs.YtpmlhgakbpfgmaaDoor
