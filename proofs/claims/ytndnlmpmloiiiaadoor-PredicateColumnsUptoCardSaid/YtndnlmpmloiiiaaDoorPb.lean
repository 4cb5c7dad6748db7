/- The contracts of predicate.at, comparison, compare, denoted and the reference's Compares and denoted. -/
import Derived.Test.YtndnlmpmloiiiaaDoorPa
set_option linter.unusedSimpArgs false
set_option linter.unusedVariables false
namespace Go.Proofs.YtndnlmpmloiiiaaDoor
open Go.RowKit

theorem atV_neg {l : List V} {i : Int} (h : i < 0) : atV l i = nilV := by unfold atV; rw [if_neg (by omega)]
theorem atV_past {l : List V} {i : Int} (h : (l.length : Int) ≤ i) : atV l i = nilV := by
  unfold atV
  by_cases h0 : 0 ≤ i
  · rw [if_pos h0, List.getD_eq_getElem?_getD, List.getElem?_eq_none (by omega)]; rfl
  · rw [if_neg h0]
theorem atV_in {l : List V} {i : Nat} (h : i < l.length) : atV l i = l[i] := by unfold atV; rw [if_pos (by omega)]; simp [h]
def hasI (l : List V) (i : Int) : Bool := decide (0 ≤ i) && decide (i < l.length)
def AtOut (l : List V) (i : Int) (w : World) (e : Ending) (w' : World) : Prop := e = .returned (.tuple #[(atV l i).val, .bool (hasI l i)]) ∧ Gro w w'
set_option maxHeartbeats 1000000 in
theorem at_calls (va : Value) (l : List V) (i : Int) (w : World) (ha : RowAt w va l) : Calls Tryd.prog 66 #[va, .int .i64 i] w (AtOut l i w) := by
  obtain ⟨a, cap, rfl, hl, ha⟩ := ha
  have HG1 := Lib.hid (fun (o : Obj) => (Gro.refl w).alloc o)
  by_cases h0 : i < 0
  · have HE : Hid (atV l i = nilV ∧ hasI l i = false) := ⟨atV_neg h0, by unfold hasI; rw [decide_eq_false (by omega)]; rfl⟩
    show Calls _ _ _ _ (fun e w' => e = .returned (.tuple #[(atV l i).val, .bool (hasI l i)]) ∧ Gro w w')
    rw [HE.out.1, HE.out.2]
    have hd : decide (i < 0) = true := by simpa using h0
    clear ha
    go_enter Tryd.func66, Tryd.ntmps66
    go_wp2
    exact bodyPost_ret (v := .tuple #[nilV.val, .bool false]) (by simp [results, Tryd.results66, go_sem, V.val, nilV]; try rfl) rfl ⟨rfl, ((Gro.refl w).alloc _).alloc _⟩
  by_cases h1 : (l.length : Int) ≤ i
  · have HE : Hid (atV l i = nilV ∧ hasI l i = false) := ⟨atV_past h1, by unfold hasI; rw [decide_eq_false (p := i < l.length) (by omega), Bool.and_false]⟩
    show Calls _ _ _ _ (fun e w' => e = .returned (.tuple #[(atV l i).val, .bool (hasI l i)]) ∧ Gro w w')
    rw [HE.out.1, HE.out.2]
    generalize l.length = N at h1 hl ⊢
    have hd : decide (i < 0) = false := by simpa using h0
    have hd1 : decide ((N : Int) ≤ i) = true := by simpa using h1
    clear ha
    go_enter Tryd.func66, Tryd.ntmps66
    go_wp2
    exact bodyPost_ret (v := .tuple #[nilV.val, .bool false]) (by simp [results, Tryd.results66, go_sem, V.val, nilV]; try rfl) rfl ⟨rfl, ((Gro.refl w).alloc _).alloc _⟩
  · obtain ⟨n, rfl⟩ : ∃ n : Nat, i = n := ⟨i.toNat, by omega⟩
    have hn : n < l.length := by omega
    have HE : Hid (atV l n = l[n] ∧ hasI l n = true) := ⟨atV_in hn, by unfold hasI; rw [decide_eq_true (by omega), decide_eq_true (by omega)]; rfl⟩
    show Calls _ _ _ _ (fun e w' => e = .returned (.tuple #[(atV l n).val, .bool (hasI l n)]) ∧ Gro w w')
    rw [HE.out.1, HE.out.2]
    obtain ⟨b, off, rfl, hr⟩ := ha.resolve_left (by rintro rfl; simp at hn)
    have hat := (hr.later ((Below.refl w.heap.size w).alloc (Nat.le_refl _) (.cells #[.int .i64 0, .int .i64 0, .string ⟨#[]⟩] 24))).at_ n hn
    have hb := hr.blk
    generalize l[n] = x at hat ⊢
    obtain ⟨xk, xn, xt⟩ := x
    obtain ⟨d0, d1, d2⟩ := hat
    clear HE
    obtain ⟨N, hN⟩ : ∃ N, l.length = N := ⟨_, rfl⟩
    rw [hN] at h1 hl hn ⊢
    have hx : decide ((n : Int) < 0) = false := by simp
    have hy : decide ((N : Int) ≤ n) = false := by simp; omega
    have hb2 : b < (w.alloc (.cells #[.int .i64 0, .int .i64 0, .string ⟨#[]⟩] 24)).heap.size := by simp; omega
    clear hr hN ha
    go_enter Tryd.func66, Tryd.ntmps66
    go_wp2
    exact bodyPost_ret (v := .tuple #[V.val ⟨xk, xn, xt⟩, .bool true]) (by simp [results, Tryd.results66, go_sem, V.val]; try rfl) rfl ⟨rfl, (Gro.refl w).alloc _⟩
end Go.Proofs.YtndnlmpmloiiiaaDoor
/- The contracts of predicate.comparison, compare and denoted, and of the reference's Compares and denoted. -/
set_option linter.unusedSimpArgs false
set_option linter.unusedVariables false
namespace Go.Proofs.YtndnlmpmloiiiaaDoor
open Go.RowKit

def BoolG (q : Bool) (w : World) (e : Ending) (w' : World) : Prop := e = .returned (.bool q) ∧ Gro w w'
theorem boolg {x y : Bool} {w w' : World} (h : y = x) (h3 : Gro w w') : BoolG x w (.returned (.bool y)) w' := by subst h; exact ⟨rfl, h3⟩
theorem isEqual_calls (d : Int) (w : World) : Calls Tryd.prog 75 #[.int .i64 d] w (BoolG (decide (d = 0)) w) := by
  go_enter Tryd.func75, Tryd.ntmps75
  go_wp2
  go_ret
  exact boolg (by first | rfl | (rw [Bool.eq_iff_iff]; simp) | simp) (Gro.refl _)
theorem isNotEqual_calls (d : Int) (w : World) : Calls Tryd.prog 76 #[.int .i64 d] w (BoolG (!decide (d = 0)) w) := by
  go_enter Tryd.func76, Tryd.ntmps76
  go_wp2
  go_ret
  exact boolg (by first | rfl | (rw [Bool.eq_iff_iff]; simp) | simp) (Gro.refl _)
theorem isLess_calls (d : Int) (w : World) : Calls Tryd.prog 77 #[.int .i64 d] w (BoolG (decide (d < 0)) w) := by
  go_enter Tryd.func77, Tryd.ntmps77
  go_wp2
  go_ret
  exact boolg (by first | rfl | (rw [Bool.eq_iff_iff]; simp) | simp) (Gro.refl _)
theorem isLessOrEqual_calls (d : Int) (w : World) : Calls Tryd.prog 78 #[.int .i64 d] w (BoolG (decide (d ≤ 0)) w) := by
  go_enter Tryd.func78, Tryd.ntmps78
  go_wp2
  go_ret
  exact boolg (by first | rfl | (rw [Bool.eq_iff_iff]; simp) | simp) (Gro.refl _)
theorem isGreater_calls (d : Int) (w : World) : Calls Tryd.prog 79 #[.int .i64 d] w (BoolG (decide (0 < d)) w) := by
  go_enter Tryd.func79, Tryd.ntmps79
  go_wp2
  go_ret
  exact boolg (by first | rfl | (rw [Bool.eq_iff_iff]; simp) | simp) (Gro.refl _)
theorem isGreaterOrEqual_calls (d : Int) (w : World) : Calls Tryd.prog 80 #[.int .i64 d] w (BoolG (decide (0 ≤ d)) w) := by
  go_enter Tryd.func80, Tryd.ntmps80
  go_wp2
  go_ret
  exact boolg (by first | rfl | (rw [Bool.eq_iff_iff]; simp) | simp) (Gro.refl _)
/-- What predicate.comparison answers. -/
def FnOut (cmp : Int) (w : World) (e : Ending) (w' : World) : Prop := e = .returned (if cmp = 1 then .func (.func 75) #[] #[] else if cmp = 2 then .func (.func 76) #[] #[] else if cmp = 3 then .func (.func 77) #[] #[] else if cmp = 4 then .func (.func 78) #[] #[] else if cmp = 5 then .func (.func 79) #[] #[] else if cmp = 6 then .func (.func 80) #[] #[] else .nilFunc) ∧ Gro w w'
theorem fn_none {cmp : Int} (h : cmp < 1 ∨ 6 < cmp) : (if cmp = 1 then Value.func (.func 75) #[] #[] else if cmp = 2 then .func (.func 76) #[] #[] else if cmp = 3 then .func (.func 77) #[] #[] else if cmp = 4 then .func (.func 78) #[] #[] else if cmp = 5 then .func (.func 79) #[] #[] else if cmp = 6 then .func (.func 80) #[] #[] else .nilFunc) = .nilFunc := by
  rw [if_neg (by omega), if_neg (by omega), if_neg (by omega), if_neg (by omega), if_neg (by omega), if_neg (by omega)]
set_option maxHeartbeats 1000000 in
theorem comparison_calls (cmp : Int) (w : World) : Calls Tryd.prog 63 #[.int .i64 cmp] w (FnOut cmp w) := by
  by_cases h0 : cmp < 1 ∨ 6 < cmp
  · have HE := Lib.hid (fn_none h0)
    have h : cmp < 0 ∨ cmp = 0 ∨ 7 ≤ cmp := by omega
    clear h0
    rcases h with h | rfl | h
    · have hd : decide (cmp < 0) = true := decide_eq_true h
      go_enter Tryd.func63, Tryd.ntmps63
      go_wp2
      go_ret
      exact ⟨(congrArg Ending.returned HE.out).symm, (Gro.refl _).alloc _⟩
    · go_enter Tryd.func63, Tryd.ntmps63
      go_wp2
      go_ret
      exact ⟨rfl, (Gro.refl _).alloc _⟩
    · have hd : decide (cmp < 0) = false := decide_eq_false (by omega)
      have hd2 : decide (7 ≤ cmp) = true := decide_eq_true h
      go_enter Tryd.func63, Tryd.ntmps63
      go_wp2
      go_ret
      exact ⟨(congrArg Ending.returned HE.out).symm, (Gro.refl _).alloc _⟩
  · obtain rfl | rfl | rfl | rfl | rfl | rfl : cmp = 1 ∨ cmp = 2 ∨ cmp = 3 ∨ cmp = 4 ∨ cmp = 5 ∨ cmp = 6 := by omega
    all_goals
      go_enter Tryd.func63, Tryd.ntmps63
      go_wp2
      go_ret
      exact ⟨rfl, (Gro.refl _).alloc _⟩
end Go.Proofs.YtndnlmpmloiiiaaDoor
