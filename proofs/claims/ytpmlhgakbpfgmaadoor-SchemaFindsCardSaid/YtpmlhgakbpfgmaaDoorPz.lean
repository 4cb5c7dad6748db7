/- The case's Bool at any number, its number, and its values of a kind. -/
import Derived.Test.YtpmlhgakbpfgmaaDoorE
import Derived.Test.YtpmlhgakbpfgmaaDoorKa
set_option linter.unusedSimpArgs false
set_option linter.unusedVariables false
namespace Go.Proofs.YtpmlhgakbpfgmaaDoor
open Go.RowKit

/-- A value of the kind that was asked for. -/
def GotVK (k : Int) (b : Nat) (c : CaseId) (w : World) (e : Ending) (w' : World) : Prop := ∃ v : V, e = .returned v.val ∧ v.k = k ∧ validB v = true ∧ isNum v.n ∧ CaseAt w' b c ∧ w.grownBy w' (some b)
theorem caseValueK_calls (b : Nat) (c : CaseId) (k : Int) (h3 : 3 ≤ k) (h5 : k ≤ 5) (w : World) (hc : CaseAt w b c) : Calls Tryd.prog 43 #[.pointer (some ⟨b, 0, none⟩), .int .i64 k] w (GotVK k b c w) := by
  have hc' : CaseAt (w.alloc (.cells #[.int .i64 0, .int .i64 0, .string ⟨#[]⟩] 56)) b c := hc.grown (World.grownBy_alloc w _ none)
  have hlt := hc.lt
  have HC0 := Lib.hid hc
  obtain rfl | rfl | rfl : k = 3 ∨ k = 4 ∨ k = 5 := by omega
  · have hi := int_calls b c 2 (by omega) (by omega) _ hc'
    have HI := Lib.hid hi
    clear hi hc hc'
    go_enter Tryd.func43, Tryd.ntmps43
    go_wp2_with fail
    refine HI.out.mono ?_
    rintro e w' ⟨x, rfl, hx0, hx1, hcs, hby⟩
    obtain ⟨q1, r0, r1, r2, f0, f1, f2⟩ := box_kept hby hlt
    have HC := Lib.hid hcs
    have HB := Lib.hid (by_alloc hby)
    clear hcs hby HI
    go_wp2
    exact bodyPost_ret (v := V.val ⟨3, x, ⟨#[]⟩⟩) (by simp [results, Tryd.results43, go_sem, V.val, r0, r1, r2, q1]; try rfl) rfl
      ⟨⟨3, x, ⟨#[]⟩⟩, rfl, rfl, by simp [validB, validP, data_empty]; omega, by unfold isNum; simp only; omega, HC0.out.stored (HC0.out.stored (HC0.out.stored HC.out (Nat.le_refl _) _) (Nat.le_refl _) _) (Nat.le_refl _) _, by_store_new (by_store_new (by_store_new HB.out (Nat.le_refl _) _) (Nat.le_refl _) _) (Nat.le_refl _) _⟩
  · have hi := number_calls b c _ hc'
    have HI := Lib.hid hi
    clear hi hc hc'
    go_enter Tryd.func43, Tryd.ntmps43
    go_wp2_with fail
    refine HI.out.mono ?_
    rintro e w' ⟨x, rfl, hx, hcs, hby⟩
    obtain ⟨q1, r0, r1, r2, f0, f1, f2⟩ := box_kept hby hlt
    have HC := Lib.hid hcs
    have HB := Lib.hid (by_alloc hby)
    have HX := Lib.hid hx
    clear hcs hby HI hx
    go_wp2
    exact bodyPost_ret (v := V.val ⟨4, x, ⟨#[]⟩⟩) (by simp [results, Tryd.results43, go_sem, V.val, r0, r1, r2, q1]; try rfl) rfl
      ⟨⟨4, x, ⟨#[]⟩⟩, rfl, rfl, by simp [validB, validP, data_empty], HX.out, HC0.out.stored (HC0.out.stored (HC0.out.stored HC.out (Nat.le_refl _) _) (Nat.le_refl _) _) (Nat.le_refl _) _, by_store_new (by_store_new (by_store_new HB.out (Nat.le_refl _) _) (Nat.le_refl _) _) (Nat.le_refl _) _⟩
  · have hi := caseText_calls b c _ hc'
    have HI := Lib.hid hi
    clear hi hc hc'
    go_enter Tryd.func43, Tryd.ntmps43
    go_wp2_with fail
    refine HI.out.mono ?_
    rintro e w' ⟨x, rfl, hx, hcs, hby⟩
    obtain ⟨q1, r0, r1, r2, f0, f1, f2⟩ := box_kept hby hlt
    have HC := Lib.hid hcs
    have HB := Lib.hid (by_alloc hby)
    have HX := Lib.hid hx
    clear hcs hby HI hx
    go_wp2
    exact bodyPost_ret (v := V.val ⟨5, 0, x⟩) (by simp [results, Tryd.results43, go_sem, V.val, r0, r1, r2, q1]; try rfl) rfl
      ⟨⟨5, 0, x⟩, rfl, rfl, by simp [validB, validP, HX.out], by unfold isNum; simp, HC0.out.stored (HC0.out.stored (HC0.out.stored HC.out (Nat.le_refl _) _) (Nat.le_refl _) _) (Nat.le_refl _) _, by_store_new (by_store_new (by_store_new HB.out (Nat.le_refl _) _) (Nat.le_refl _) _) (Nat.le_refl _) _⟩


theorem boolp_calls (b : Nat) (c : CaseId) (n : Int) (h1 : 1 ≤ n) (h2 : n ≤ 4398046511104) (w : World) (hc : CaseAt w b c) : Calls Tryd.prog 19 #[.pointer (some ⟨b, 0, none⟩), .int .i64 n] w (GotB b c w) := by
  have HI := Lib.hid (int_calls b c n h1 h2 w hc)
  clear hc h1 h2
  go_enter Tryd.func19, Tryd.ntmps19
  go_wp2_with fail
  refine HI.out.mono ?_
  rintro e w2 ⟨x, rfl, h0, h1, hc2, hb2⟩
  have HC := Lib.hid (And.intro hc2 hb2)
  clear hc2 hb2 HI h0 h1
  go_wp2
  go_ret
  exact ⟨_, rfl, HC.out.1, HC.out.2⟩
/-- Any number. -/
def GotN (b : Nat) (c : CaseId) (w : World) (e : Ending) (w' : World) : Prop := ∃ x : Int, e = .returned (.int .i64 x) ∧ CaseAt w' b c ∧ w.grownBy w' (some b)
set_option maxRecDepth 100000 in
theorem casenumber_calls (b : Nat) (c : CaseId) (w : World) (hc : CaseAt w b c) : Calls Tryd.prog 22 #[.pointer (some ⟨b, 0, none⟩)] w (GotN b c w) := by
  have HI := Lib.hid (int_calls b c 6 (by omega) (by omega) w hc)
  clear hc
  go_enter Tryd.func22, Tryd.ntmps22
  go_wp2_with fail
  refine HI.out.mono ?_
  rintro e w2 ⟨x, rfl, h0, h1, hc2, hb2⟩
  have HC := Lib.hid hc2
  have HB := Lib.hid hb2
  clear hc2 hb2 HI
  by_cases h3 : x < 3
  · obtain rfl | rfl | rfl : x = 0 ∨ x = 1 ∨ x = 2 := by omega
    all_goals
      clear h0 h1 h3
      go_wp2
      go_ret
      exact ⟨_, rfl, HC.out, HB.out⟩
  · by_cases h4 : x = 3
    · subst h4
      clear h0 h1 h3
      go_wp2_with fail
      refine (int_calls b c 3 (by omega) (by omega) w2 HC.out).mono ?_
      rintro e w3 ⟨y, rfl, h0, h1, hc3, hb3⟩
      have HC3 := Lib.hid (And.intro hc3 (by_trans HB.out hb3))
      clear hc3 hb3
      go_wp2
      go_ret
      exact ⟨_, rfl, HC3.out.1, HC3.out.2⟩
    · obtain rfl | rfl : x = 4 ∨ x = 5 := by omega
      all_goals
        clear h0 h1 h3 h4
        go_wp2_with fail
        refine (int_calls b c 6 (by omega) (by omega) w2 HC.out).mono ?_
        rintro e w3 ⟨y, rfl, h0, h1, hc3, hb3⟩
        have HC3 := Lib.hid (And.intro hc3 (by_trans HB.out hb3))
        clear hc3 hb3
        go_wp2
        go_ret
        exact ⟨_, rfl, HC3.out.1, HC3.out.2⟩
end Go.Proofs.YtpmlhgakbpfgmaaDoor
