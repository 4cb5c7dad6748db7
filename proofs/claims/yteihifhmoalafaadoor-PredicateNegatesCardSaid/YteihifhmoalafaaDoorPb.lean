/- The contracts of predicate.at, comparison, compare, denoted and the reference's Compares and denoted. -/
import Derived.Test.YteihifhmoalafaaDoorPa
set_option linter.unusedSimpArgs false
set_option linter.unusedVariables false
namespace Go.Proofs.YteihifhmoalafaaDoor
open Go.RowKit

theorem atV_neg {l : List V} {i : Int} (h : i < 0) : atV l i = nilV := by unfold atV; rw [if_neg (by omega)]
theorem atV_past {l : List V} {i : Int} (h : (l.length : Int) ≤ i) : atV l i = nilV := by
  unfold atV
  by_cases h0 : 0 ≤ i
  · rw [if_pos h0, List.getD_eq_getElem?_getD, List.getElem?_eq_none (by omega)]; rfl
  · rw [if_neg h0]
theorem atV_in {l : List V} {i : Nat} (h : i < l.length) : atV l i = l[i] := by unfold atV; rw [if_pos (by omega)]; simp [h]
def hasI (l : List V) (i : Int) : Bool := decide (0 ≤ i) && decide (i < l.length)
def AtOut (l : List V) (i : Int) (w : World) (e : Ending) (w' : World) : Prop := e = .returned (.tuple #[(atV l i).val, .bool (hasI l i)]) ∧ Gro w w'
set_option maxHeartbeats 1000000 in
theorem at_calls (va : Value) (l : List V) (i : Int) (w : World) (ha : RowAt w va l) : Calls Tryd.prog 70 #[va, .int .i64 i] w (AtOut l i w) := by
  obtain ⟨a, cap, rfl, hl, ha⟩ := ha
  have HG1 := Lib.hid (fun (o : Obj) => (Gro.refl w).alloc o)
  by_cases h0 : i < 0
  · have HE : Hid (atV l i = nilV ∧ hasI l i = false) := ⟨atV_neg h0, by unfold hasI; rw [decide_eq_false (by omega)]; rfl⟩
    show Calls _ _ _ _ (fun e w' => e = .returned (.tuple #[(atV l i).val, .bool (hasI l i)]) ∧ Gro w w')
    rw [HE.out.1, HE.out.2]
    have hd : decide (i < 0) = true := by simpa using h0
    clear ha
    go_enter Tryd.func70, Tryd.ntmps70
    go_wp2
    exact bodyPost_ret (v := .tuple #[nilV.val, .bool false]) (by simp [results, Tryd.results70, go_sem, V.val, nilV]; try rfl) rfl ⟨rfl, ((Gro.refl w).alloc _).alloc _⟩
  by_cases h1 : (l.length : Int) ≤ i
  · have HE : Hid (atV l i = nilV ∧ hasI l i = false) := ⟨atV_past h1, by unfold hasI; rw [decide_eq_false (p := i < l.length) (by omega), Bool.and_false]⟩
    show Calls _ _ _ _ (fun e w' => e = .returned (.tuple #[(atV l i).val, .bool (hasI l i)]) ∧ Gro w w')
    rw [HE.out.1, HE.out.2]
    generalize l.length = N at h1 hl ⊢
    have hd : decide (i < 0) = false := by simpa using h0
    have hd1 : decide ((N : Int) ≤ i) = true := by simpa using h1
    clear ha
    go_enter Tryd.func70, Tryd.ntmps70
    go_wp2
    exact bodyPost_ret (v := .tuple #[nilV.val, .bool false]) (by simp [results, Tryd.results70, go_sem, V.val, nilV]; try rfl) rfl ⟨rfl, ((Gro.refl w).alloc _).alloc _⟩
  · obtain ⟨n, rfl⟩ : ∃ n : Nat, i = n := ⟨i.toNat, by omega⟩
    have hn : n < l.length := by omega
    have HE : Hid (atV l n = l[n] ∧ hasI l n = true) := ⟨atV_in hn, by unfold hasI; rw [decide_eq_true (by omega), decide_eq_true (by omega)]; rfl⟩
    show Calls _ _ _ _ (fun e w' => e = .returned (.tuple #[(atV l n).val, .bool (hasI l n)]) ∧ Gro w w')
    rw [HE.out.1, HE.out.2]
    obtain ⟨b, off, rfl, hr⟩ := ha.resolve_left (by rintro rfl; simp at hn)
    have hat := (hr.later ((Below.refl w.heap.size w).alloc (Nat.le_refl _) (.cells #[.int .i64 0, .int .i64 0, .string ⟨#[]⟩] 24))).at_ n hn
    have hb := hr.blk
    generalize l[n] = x at hat ⊢
    obtain ⟨xk, xn, xt⟩ := x
    obtain ⟨d0, d1, d2⟩ := hat
    clear HE
    obtain ⟨N, hN⟩ : ∃ N, l.length = N := ⟨_, rfl⟩
    rw [hN] at h1 hl hn ⊢
    have hx : decide ((n : Int) < 0) = false := by simp
    have hy : decide ((N : Int) ≤ n) = false := by simp; omega
    have hb2 : b < (w.alloc (.cells #[.int .i64 0, .int .i64 0, .string ⟨#[]⟩] 24)).heap.size := by simp; omega
    clear hr hN ha
    go_enter Tryd.func70, Tryd.ntmps70
    go_wp2
    exact bodyPost_ret (v := .tuple #[V.val ⟨xk, xn, xt⟩, .bool true]) (by simp [results, Tryd.results70, go_sem, V.val]; try rfl) rfl ⟨rfl, (Gro.refl w).alloc _⟩
end Go.Proofs.YteihifhmoalafaaDoor
