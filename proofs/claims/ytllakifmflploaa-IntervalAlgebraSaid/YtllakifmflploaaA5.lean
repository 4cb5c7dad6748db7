/- The contracts of value.Next and the reference's Next. -/
import Derived.Test.YtllakifmflploaaA4
set_option linter.unusedSimpArgs false
set_option linter.unusedVariables false
namespace Go.Proofs.Ytllakifmflploaa
open Go.RowKit

/-- The least valid value above a value. -/
def nextV (v : V) : Option V :=
  if validB v = false then none
  else if v.k = 1 then some ⟨2, 0, ByteArray.empty⟩
  else if v.k = 2 then some ⟨3, 0, ByteArray.empty⟩
  else if v.k = 3 then (if v.n = 0 then some ⟨3, 1, ByteArray.empty⟩ else some ⟨4, -9223372036854775808, ByteArray.empty⟩)
  else if v.k = 4 then (if v.n < 9223372036854775807 then some ⟨4, v.n + 1, ByteArray.empty⟩ else some ⟨5, 0, ByteArray.empty⟩)
  else nextTV v.t
theorem nextV_invalid {v : V} (h : validB v = false) : nextV v = none := by unfold nextV; rw [if_pos h]
theorem nextV_text {t : ByteArray} (h : validB ⟨5, 0, t⟩ = true) : nextV ⟨5, 0, t⟩ = nextTV t := by unfold nextV; simp [h]
theorem nextV_int {n : Int} (h : n < 9223372036854775807) : nextV ⟨4, n, ByteArray.empty⟩ = some ⟨4, n + 1, ByteArray.empty⟩ := by unfold nextV; simp [h, validB, validP]
theorem nextV_last {n : Int} (h : ¬ n < 9223372036854775807) : nextV ⟨4, n, ByteArray.empty⟩ = some ⟨5, 0, ByteArray.empty⟩ := by unfold nextV; simp [h, validB, validP]
theorem both_none : both none = .tuple #[V.val ⟨0, 0, ByteArray.empty⟩, .bool false] := rfl
theorem both_some (v : V) : both (some v) = .tuple #[v.val, .bool true] := rfl

theorem box2 {W w : World} {x y z : Value} {T : TypeId} {o : Obj} {q : Nat} {os : Array Obj} (hW : W = Sort.grow (((w.alloc (.cells #[x, y, z] T)).alloc o).drewN q) os) (m : Nat) (os' : Array Obj) :
    (Sort.grow (W.drewN m) os').cell? ⟨w.heap.size, 0, none⟩ = some x ∧ (Sort.grow (W.drewN m) os').cell? ⟨w.heap.size, 1, none⟩ = some y ∧ (Sort.grow (W.drewN m) os').cell? ⟨w.heap.size, 2, none⟩ = some z := by
  subst hW
  refine ⟨?_, ?_, ?_⟩ <;> go_simp

theorem next_invalid (v : V) (hv : validB v = false) (w : World) : Calls Try.prog 75 #[v.val] w fun e w' => e = .returned (both none) ∧ Gro w w' := by
  obtain ⟨k, n, t⟩ := v
  have Hv := Lib.hid hv
  clear hv
  go_enter Try.func75, Try.ntmps75
  go_wp2_with (go_at_call 76; refine (wide (valid_calls ⟨k, n, t⟩ _)).mono ?_; rw [Hv.out]; rintro e w' ⟨q, os, rfl, rfl⟩)
  exact bodyPost_ret (v := both none) (by simp [results, Try.results75, go_sem, V.val, both, zeroV]; try rfl) rfl ⟨rfl, (((Gro.refl _).alloc _).alloc _).grown _ _⟩

theorem next_missing  (w : World) : Calls Try.prog 75 #[V.val ⟨1, 0, ByteArray.empty⟩] w fun e w' => e = .returned (both (some ⟨2, 0, ByteArray.empty⟩)) ∧ Gro w w' := by
  have mx := mixed
  have he := eql_V
  have Hv : Hid (validB ⟨1, 0, ByteArray.empty⟩ = true) := by show _ = _; simp [validB, validP]
  go_enter Try.func75, Try.ntmps75
  go_wp2_with (first | (go_at_call 76; refine (wide (valid_calls ⟨1, 0, ByteArray.empty⟩ _)).mono ?_; rw [Hv.out]; rintro e w' ⟨q, os, rfl, rfl⟩))
  obtain ⟨W, hW⟩ : ∃ W, W = Sort.grow (((w.alloc (.cells #[.int .i64 1, .int .i64 0, .string ByteArray.empty] 35)).alloc (.cells #[.int .i64 0, .int .i64 0, .string ⟨#[]⟩] 35)).drewN q) os := ⟨_, rfl⟩
  rw [← hW]
  have c0 := fun m os => (box2 hW m os).1
  have c1 := fun m os => (box2 hW m os).2.1
  have c2 := fun m os => (box2 hW m os).2.2
  have HW := Lib.hid hW
  clear hW
  go_quiet_grown (first | (go_at_call 111; refine gro_calls (boolean_calls _ _)))
  clear c0 c1 c2
  have hW := HW.out
  subst hW
  clear HW
  go_wp2_with ((go_at_call 100; refine (wide (first_calls _ _)).mono ?_; rintro e w' ⟨q2, os2, rfl, rfl⟩))
  exact bodyPost_ret (v := both (some ⟨2, 0, ByteArray.empty⟩)) (by simp [results, Try.results75, go_sem, V.val, both, firstV, firstB]; try rfl) rfl ⟨rfl, (((Gro.refl _).alloc _).alloc _).grown _ _⟩

theorem next_hidden  (w : World) : Calls Try.prog 75 #[V.val ⟨2, 0, ByteArray.empty⟩] w fun e w' => e = .returned (both (some ⟨3, 0, ByteArray.empty⟩)) ∧ Gro w w' := by
  have mx := mixed
  have he := eql_V
  have Hv : Hid (validB ⟨2, 0, ByteArray.empty⟩ = true) := by show _ = _; simp [validB, validP]
  go_enter Try.func75, Try.ntmps75
  go_wp2_with (first | (go_at_call 76; refine (wide (valid_calls ⟨2, 0, ByteArray.empty⟩ _)).mono ?_; rw [Hv.out]; rintro e w' ⟨q, os, rfl, rfl⟩))
  obtain ⟨W, hW⟩ : ∃ W, W = Sort.grow (((w.alloc (.cells #[.int .i64 2, .int .i64 0, .string ByteArray.empty] 35)).alloc (.cells #[.int .i64 0, .int .i64 0, .string ⟨#[]⟩] 35)).drewN q) os := ⟨_, rfl⟩
  rw [← hW]
  have c0 := fun m os => (box2 hW m os).1
  have c1 := fun m os => (box2 hW m os).2.1
  have c2 := fun m os => (box2 hW m os).2.2
  have HW := Lib.hid hW
  clear hW
  go_quiet_grown (first | (go_at_call 111; refine gro_calls (boolean_calls _ _)))
  clear c0 c1 c2
  have hW := HW.out
  subst hW
  clear HW
  go_wp2_with ((go_at_call 100; refine (wide (first_calls _ _)).mono ?_; rintro e w' ⟨q2, os2, rfl, rfl⟩))
  exact bodyPost_ret (v := both (some ⟨3, 0, ByteArray.empty⟩)) (by simp [results, Try.results75, go_sem, V.val, both, firstV, firstB]; try rfl) rfl ⟨rfl, (((Gro.refl _).alloc _).alloc _).grown _ _⟩

theorem next_false  (w : World) : Calls Try.prog 75 #[V.val ⟨3, 0, ByteArray.empty⟩] w fun e w' => e = .returned (both (some ⟨3, 1, ByteArray.empty⟩)) ∧ Gro w w' := by
  have mx := mixed
  have he := eql_V
  have Hv : Hid (validB ⟨3, 0, ByteArray.empty⟩ = true) := by show _ = _; simp [validB, validP]
  go_enter Try.func75, Try.ntmps75
  go_wp2_with (first | (go_at_call 76; refine (wide (valid_calls ⟨3, 0, ByteArray.empty⟩ _)).mono ?_; rw [Hv.out]; rintro e w' ⟨q, os, rfl, rfl⟩))
  obtain ⟨W, hW⟩ : ∃ W, W = Sort.grow (((w.alloc (.cells #[.int .i64 3, .int .i64 0, .string ByteArray.empty] 35)).alloc (.cells #[.int .i64 0, .int .i64 0, .string ⟨#[]⟩] 35)).drewN q) os := ⟨_, rfl⟩
  rw [← hW]
  have c0 := fun m os => (box2 hW m os).1
  have c1 := fun m os => (box2 hW m os).2.1
  have c2 := fun m os => (box2 hW m os).2.2
  have HW := Lib.hid hW
  clear hW
  go_quiet_grown (first | (go_at_call 111; refine gro_calls (boolean_calls _ _)))
  clear c0 c1 c2
  have hW := HW.out
  subst hW
  clear HW
  go_wp2_with ((go_at_call 111; refine (wide (boolean_calls _ _)).mono ?_; rintro e w' ⟨q2, os2, rfl, rfl⟩))
  exact bodyPost_ret (v := both (some ⟨3, 1, ByteArray.empty⟩)) (by simp [results, Try.results75, go_sem, V.val, both, firstV, firstB]; try rfl) rfl ⟨rfl, (((Gro.refl _).alloc _).alloc _).grown _ _⟩

theorem next_true  (w : World) : Calls Try.prog 75 #[V.val ⟨3, 1, ByteArray.empty⟩] w fun e w' => e = .returned (both (some ⟨4, -9223372036854775808, ByteArray.empty⟩)) ∧ Gro w w' := by
  have mx := mixed
  have he := eql_V
  have Hv : Hid (validB ⟨3, 1, ByteArray.empty⟩ = true) := by show _ = _; simp [validB, validP]
  go_enter Try.func75, Try.ntmps75
  go_wp2_with (first | (go_at_call 76; refine (wide (valid_calls ⟨3, 1, ByteArray.empty⟩ _)).mono ?_; rw [Hv.out]; rintro e w' ⟨q, os, rfl, rfl⟩))
  obtain ⟨W, hW⟩ : ∃ W, W = Sort.grow (((w.alloc (.cells #[.int .i64 3, .int .i64 1, .string ByteArray.empty] 35)).alloc (.cells #[.int .i64 0, .int .i64 0, .string ⟨#[]⟩] 35)).drewN q) os := ⟨_, rfl⟩
  rw [← hW]
  have c0 := fun m os => (box2 hW m os).1
  have c1 := fun m os => (box2 hW m os).2.1
  have c2 := fun m os => (box2 hW m os).2.2
  have HW := Lib.hid hW
  clear hW
  go_quiet_grown (first | (go_at_call 111; refine gro_calls (boolean_calls _ _)))
  clear c0 c1 c2
  have hW := HW.out
  subst hW
  clear HW
  go_wp2_with ((go_at_call 100; refine (wide (first_calls _ _)).mono ?_; rintro e w' ⟨q2, os2, rfl, rfl⟩))
  exact bodyPost_ret (v := both (some ⟨4, -9223372036854775808, ByteArray.empty⟩)) (by simp [results, Try.results75, go_sem, V.val, both, firstV, firstB]; try rfl) rfl ⟨rfl, (((Gro.refl _).alloc _).alloc _).grown _ _⟩

theorem wrap_next (n : Int) (h0 : -9223372036854775808 ≤ n) (h : n < 9223372036854775807) : wrap64 (n + 1) = n + 1 := by
  unfold wrap64
  omega
set_option maxRecDepth 100000 in
theorem next_int (n : Int) (h0 : -9223372036854775808 ≤ n) (w : World) : Calls Try.prog 75 #[V.val ⟨4, n, ByteArray.empty⟩] w fun e w' => e = .returned (both (nextV ⟨4, n, ByteArray.empty⟩)) ∧ Gro w w' := by
  have mx := mixed
  have he := eql_V
  have Hv : Hid (validB ⟨4, n, ByteArray.empty⟩ = true) := by show _ = _; simp [validB, validP]
  by_cases h : n < 9223372036854775807
  · have E1 : Hid (both (nextV ⟨4, n, ByteArray.empty⟩) = both (some ⟨4, n + 1, ByteArray.empty⟩)) := by show _ = _; rw [nextV_int h]
    have E2 : Hid (wrap64 (n + 1) = n + 1) := wrap_next n h0 h
    have hd : decide (n < 9223372036854775807) = true := by simpa using h
    clear h h0
    go_enter Try.func75, Try.ntmps75
    go_wp2_with (first | (go_at_call 76; refine (wide (valid_calls ⟨4, n, ByteArray.empty⟩ _)).mono ?_; rw [Hv.out]; rintro e w' ⟨q, os, rfl, rfl⟩))
    obtain ⟨W, hW⟩ : ∃ W, W = Sort.grow (((w.alloc (.cells #[.int .i64 4, .int .i64 n, .string ByteArray.empty] 35)).alloc (.cells #[.int .i64 0, .int .i64 0, .string ⟨#[]⟩] 35)).drewN q) os := ⟨_, rfl⟩
    rw [← hW]
    have c0 := fun m os => (box2 hW m os).1
    have c1 := fun m os => (box2 hW m os).2.1
    have c2 := fun m os => (box2 hW m os).2.2
    have HW := Lib.hid hW
    clear hW
    go_quiet_grown (first | (go_at_call 111; refine gro_calls (boolean_calls _ _)))
    clear c0 c1 c2
    have hW := HW.out
    subst hW
    clear HW
    go_wp2_with (go_at_call 112; refine (wide (integer_calls _ _)).mono ?_; rintro e w' ⟨q2, os2, rfl, rfl⟩)
    exact bodyPost_ret (v := both (some ⟨4, wrap64 (n + 1), ByteArray.empty⟩)) (by simp [results, Try.results75, go_sem, V.val, both]; try rfl) rfl ⟨by rw [E1.out, E2.out], (((Gro.refl _).alloc _).alloc _).grown _ _⟩
  · have E1 : Hid (both (nextV ⟨4, n, ByteArray.empty⟩) = both (some ⟨5, 0, ByteArray.empty⟩)) := by show _ = _; rw [nextV_last h]
    have hd : decide (n < 9223372036854775807) = false := by simpa using h
    clear h h0
    go_enter Try.func75, Try.ntmps75
    go_wp2_with (first | (go_at_call 76; refine (wide (valid_calls ⟨4, n, ByteArray.empty⟩ _)).mono ?_; rw [Hv.out]; rintro e w' ⟨q, os, rfl, rfl⟩))
    obtain ⟨W, hW⟩ : ∃ W, W = Sort.grow (((w.alloc (.cells #[.int .i64 4, .int .i64 n, .string ByteArray.empty] 35)).alloc (.cells #[.int .i64 0, .int .i64 0, .string ⟨#[]⟩] 35)).drewN q) os := ⟨_, rfl⟩
    rw [← hW]
    have c0 := fun m os => (box2 hW m os).1
    have c1 := fun m os => (box2 hW m os).2.1
    have c2 := fun m os => (box2 hW m os).2.2
    have HW := Lib.hid hW
    clear hW
    go_quiet_grown (first | (go_at_call 111; refine gro_calls (boolean_calls _ _)))
    clear c0 c1 c2
    have hW := HW.out
    subst hW
    clear HW
    go_wp2_with (go_at_call 100; refine (wide (first_calls _ _)).mono ?_; rintro e w' ⟨q2, os2, rfl, rfl⟩)
    exact bodyPost_ret (v := both (some ⟨5, 0, ByteArray.empty⟩)) (by simp [results, Try.results75, go_sem, V.val, both, firstV, firstB]; try rfl) rfl ⟨by rw [E1.out], (((Gro.refl _).alloc _).alloc _).grown _ _⟩

theorem next_text (t : ByteArray) (ht : t.size ≤ 64) (w : World) : Calls Try.prog 75 #[V.val ⟨5, 0, t⟩] w fun e w' => e = .returned (both (nextTV t)) ∧ Gro w w' := by
  have mx := mixed
  have he := eql_V
  have Hv : Hid (validB ⟨5, 0, t⟩ = true) := by show _ = _; simp [validB, validP, ht]
  have hc := fun w => nextText_calls t w ht
  obtain ⟨⟨uk, un, ut⟩, b, hb⟩ : ∃ (u : V) (b : Bool), both (nextTV t) = .tuple #[u.val, .bool b] := ⟨_, _, rfl⟩
  rw [hb] at hc ⊢
  have Hc := Lib.hid hc
  clear hb hc
  go_enter Try.func75, Try.ntmps75
  go_wp2_with (first | (go_at_call 76; refine (wide (valid_calls ⟨5, 0, t⟩ _)).mono ?_; rw [Hv.out]; rintro e w' ⟨q, os, rfl, rfl⟩))
  obtain ⟨W, hW⟩ : ∃ W, W = Sort.grow (((w.alloc (.cells #[.int .i64 5, .int .i64 0, .string t] 35)).alloc (.cells #[.int .i64 0, .int .i64 0, .string ⟨#[]⟩] 35)).drewN q) os := ⟨_, rfl⟩
  rw [← hW]
  have c0 := fun m os => (box2 hW m os).1
  have c1 := fun m os => (box2 hW m os).2.1
  have c2 := fun m os => (box2 hW m os).2.2
  have HW := Lib.hid hW
  clear hW
  go_quiet_grown (first | (go_at_call 111; refine gro_calls (boolean_calls _ _)))
  clear c0 c1 c2
  have hW := HW.out
  subst hW
  clear HW
  go_wp2_with (go_at_call 113; refine (wide (Hc.out _)).mono ?_; rintro e w' ⟨q2, os2, rfl, rfl⟩)
  exact bodyPost_ret (v := .tuple #[V.val ⟨uk, un, ut⟩, .bool b]) (by simp [results, Try.results75, go_sem, V.val]; try rfl) rfl ⟨rfl, (((Gro.refl _).alloc _).alloc _).grown _ _⟩

theorem next_calls (v : V) (h0 : -9223372036854775808 ≤ v.n) (w : World) : Calls Try.prog 75 #[v.val] w fun e w' => e = .returned (both (nextV v)) ∧ Gro w w' := by
  by_cases hv : validB v = true
  · have hp : validP v := by simpa [validB] using hv
    obtain ⟨k, n, t⟩ := v
    rcases hp with ⟨hk, hn, ht⟩ | ⟨hk, hn, ht⟩ | ⟨hk, ht⟩ | ⟨hk, hn, ht⟩
    · simp only at hk hn ht
      subst hn ht
      rcases hk with hk | hk
      · subst hk; exact next_missing w
      · subst hk; exact next_hidden w
    · simp only at hk hn ht
      subst hk ht
      rcases hn with hn | hn
      · subst hn; exact next_false w
      · subst hn; exact next_true w
    · simp only at hk ht
      subst hk ht
      exact next_int n h0 w
    · simp only at hk hn ht
      subst hk hn
      rw [nextV_text hv]
      exact next_text t ht w
  · simp only [Bool.not_eq_true] at hv
    rw [nextV_invalid hv]
    exact next_invalid v hv w
end Go.Proofs.Ytllakifmflploaa
