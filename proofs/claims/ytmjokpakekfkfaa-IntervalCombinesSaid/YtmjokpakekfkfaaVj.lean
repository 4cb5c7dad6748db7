/- Contracts of interval.inside and interval.compareFirst; slices of values that are cut. -/
import Derived.Test.YtmjokpakekfkfaaVb
import Derived.Test.YtmjokpakekfkfaaR
import Derived.Test.YtmjokpakekfkfaaH
import Derived.Test.YtmjokpakekfkfaaK
set_option linter.unusedSimpArgs false
set_option linter.unusedVariables false
namespace Go.Proofs.Ytmjokpakekfkfaa
open Go.RowKit

/-- A slice of values that may be cut. -/
def CutV (w : World) (v : Value) (r : List V) : Prop :=
  ∃ (a : Option Addr) (cap : Nat), v = .slice a r.length cap ∧ r.length ≤ cap ∧ cap ≤ maxLen ∧ r.length ≤ 4398046511104 ∧ (r = [] ∨ ∃ b off, a = some ⟨b, off, none⟩ ∧ RowIn w b off r)
theorem CutV.later {w w' : World} {v : Value} {r : List V} (h : CutV w v r) (hw : Below w.heap.size w w') : CutV w' v r := by
  obtain ⟨a, cap, h1, h2, h3, h4, h5⟩ := h
  exact ⟨a, cap, h1, h2, h3, h4, h5.imp id fun ⟨b, off, k1, k2⟩ => ⟨b, off, k1, k2.later hw⟩⟩
theorem CutV.row {w : World} {v : Value} {r : List V} (h : CutV w v r) : RowAt w v r := by
  obtain ⟨a, cap, h1, h2, h3, h4, h5⟩ := h
  exact ⟨a, cap, h1, h4, h5⟩
theorem RowIn.cut {w : World} {b off : Nat} {r : List V} (h : RowIn w b off r) (k : Nat) : RowIn w b (off + k * 3) (r.drop k) :=
  ⟨h.blk, fun i hi => by
    have := h.at_ (k + i) (by simp at hi; omega)
    rw [List.getElem_drop]
    have e : off + (k + i) * 3 = off + k * 3 + i * 3 := by omega
    rw [e] at this
    exact this⟩
theorem RowIn.head {w : World} {b off : Nat} {r : List V} (h : RowIn w b off r) (k : Nat) : RowIn w b off (r.take k) :=
  ⟨h.blk, fun i hi => by
    have := h.at_ i (by simp at hi; omega)
    rw [List.getElem_take]; exact this⟩
/-- 's[k:]' -/
theorem CutV.from_ {w : World} {v : Value} {r : List V} (h : CutV w v r) (k : Nat) (hk : k ≤ r.length) :
    ∃ (a' : Option Addr) (c' : Nat), (∀ w' : World, (Instr.slice 35 v (some (.int .i64 (k : Int))) none none).run Try.prog w' = .ok (.slice a' (r.length - k) c') w') ∧ CutV w (.slice a' (r.length - k) c') (r.drop k) := by
  obtain ⟨pa, ca, rfl, hcap, hcm, hl, ha⟩ := h
  have hm' : ca ≤ 9223372036854775807 := hcm
  have hkc : ¬ ca < k := by omega
  by_cases he : k = ca
  · subst he
    have hd : r.drop k = [] := List.drop_eq_nil_of_le (by omega)
    refine ⟨pa, 0, fun w' => ?_, ⟨pa, 0, by rw [hd]; simp; omega, by rw [hd]; simp, by simp, by rw [hd]; simp, .inl hd⟩⟩
    have e1 : (r.length : Int) = (k : Int) := by omega
    have e2 : r.length = k := by omega
    cases pa <;> simp [Instr.slice, run_underlying Try.underlying35, Instr.sliceBounds, Instr.sliceBound, asIntOf, go_sem, e2]
  · rcases ha with rfl | ⟨b, off, rfl, hb⟩
    · obtain rfl : k = 0 := by simpa using hk
      refine ⟨pa, ca, fun w' => ?_, ⟨pa, ca, by simp, by simp, hcm, by simp, .inl (by simp)⟩⟩
      cases pa with
      | none => simp [Instr.slice, run_underlying Try.underlying35, Instr.sliceBounds, Instr.sliceBound, asIntOf, go_sem]
      | some a =>
        have e3 : ¬ 0 = ca := he
        have e4 : ¬ ca = 0 := fun e => he e.symm
        simp [Instr.slice, run_underlying Try.underlying35, Instr.sliceBounds, Instr.sliceBound, asIntOf, go_sem, e4, Addr.add]
    · refine ⟨some ⟨b, off + k * 3, none⟩, ca - k, fun w' => ?_, ⟨_, ca - k, by rw [List.length_drop], by rw [List.length_drop]; omega, by unfold maxLen at hcm ⊢; omega, by rw [List.length_drop]; omega, .inr ⟨b, off + k * 3, rfl, hb.cut k⟩⟩⟩
      have e2 : ¬ ca = k := fun e => he e.symm
      simp [Instr.slice, run_underlying Try.underlying35, Instr.sliceBounds, Instr.sliceBound, asIntOf, go_sem]
      rw [if_pos hk, if_neg e2]
/-- 's[:k]' -/
theorem CutV.to_ {w : World} {v : Value} {r : List V} (h : CutV w v r) (k : Nat) (hk : k ≤ r.length) :
    ∃ (a' : Option Addr) (c' : Nat), (∀ w' : World, (Instr.slice 35 v none (some (.int .i64 (k : Int))) none).run Try.prog w' = .ok (.slice a' k c') w') := by
  obtain ⟨pa, ca, rfl, hcap, hcm, hl, ha⟩ := h
  have hm' : ca ≤ 9223372036854775807 := hcm
  have hkc : k ≤ ca := by omega
  refine ⟨pa, ca, fun w' => ?_⟩
  cases pa <;> simp [Instr.slice, run_underlying Try.underlying35, Instr.sliceBounds, Instr.sliceBound, asIntOf, go_sem, hkc]
theorem inside_calls (a : Option Addr) (n cap : Nat) (hn : n ≤ 4398046511104) (w : World) : Calls Try.prog 73 #[.slice a n cap] w fun e w' => e = .returned (.bool (oddB n)) ∧ w = w' := by
  have hr : (n : Int).tmod 2 = ((n % 2 : Nat) : Int) := by rw [Int.tmod_eq_emod_of_nonneg (by omega)]; rfl
  by_cases h : n % 2 = 1
  · have HO : Hid (oddB n = true) := by show _ = _; unfold oddB; simp [h]
    have h1 : (n : Int) % 2 = 1 := by omega
    clear hr
    go_enter Try.func73, Try.ntmps73
    go_wp2
    go_ret
    exact ⟨ret_b (by simp [HO.out, h1]), rfl⟩
  · have HO : Hid (oddB n = false) := by show _ = _; unfold oddB; simp [h]
    have h1 : (n : Int) % 2 = 0 := by omega
    clear hr
    go_enter Try.func73, Try.ntmps73
    go_wp2
    go_ret
    exact ⟨ret_b (by simp [HO.out, h1]), rfl⟩
/-- The order of the heads; the end of a list stands behind every edge. -/
def cmpF : List V → List V → Int
  | [], _ => 1
  | _ :: _, [] => -1
  | x :: _, y :: _ => cmpV x y
set_option maxHeartbeats 1000000 in
theorem compareFirst_calls (va vb : Value) (A B : List V) (w : World) (ha : RowAt w va A) (hb : RowAt w vb B) : Calls Try.prog 80 #[va, vb] w fun e w' => e = .returned (.int .i64 (cmpF A B)) ∧ Gro w w' := by
  have mx := mixed
  obtain ⟨pa, ca, rfl, la, ha⟩ := ha
  obtain ⟨pb, cb, rfl, lb, hb⟩ := hb
  rcases A with _ | ⟨x, A⟩
  · clear ha hb
    have e : cmpF [] B = 1 := by cases B <;> rfl
    rw [e]
    generalize B.length = n
    clear e
    go_enter Try.func80, Try.ntmps80
    go_wp2
    go_ret
    exact ⟨rfl, Gro.refl _⟩
  obtain ⟨ba, oa, rfl, hra⟩ := ha.resolve_left (by simp)
  have h0 := hra.at_ 0 (by simp)
  have hla := hra.blk
  simp only [List.length_cons] at la ⊢
  rcases B with _ | ⟨y, B⟩
  · clear hb hra h0
    have e : cmpF (x :: A) [] = -1 := rfl
    rw [e]
    generalize A.length = n at la ⊢
    have e1 : ((n : Int) + 1 == 0) = false := by simp; omega
    clear e
    go_enter Try.func80, Try.ntmps80
    go_wp2
    go_ret
    exact ⟨rfl, Gro.refl _⟩
  obtain ⟨bb, ob, rfl, hrb⟩ := hb.resolve_left (by simp)
  have h1 := hrb.at_ 0 (by simp)
  have hlb := hrb.blk
  simp only [List.length_cons] at lb ⊢
  obtain ⟨a0, a1, a2⟩ := h0
  obtain ⟨b0, b1, b2⟩ := h1
  simp only [Nat.zero_mul, Nat.add_zero, List.getElem_cons_zero] at a0 a1 a2 b0 b1 b2
  have e : cmpF (x :: A) (y :: B) = cmpV x y := rfl
  rw [e]
  have HC := Lib.hid (fun w' => compare_calls x y w')
  generalize cmpV x y = d at HC ⊢
  generalize A.length = n at la ⊢
  generalize B.length = m at lb ⊢
  have e1 : ((n : Int) + 1 == 0) = false := by simp; omega
  have e2 : ((m : Int) + 1 == 0) = false := by simp; omega
  have i1 : (0 : Int) < (n : Int) + 1 := by omega
  have i2 : (0 : Int) < (m : Int) + 1 := by omega
  obtain ⟨xk, xn, xt⟩ := x
  obtain ⟨yk, yn, yt⟩ := y
  simp only at a0 a1 a2 b0 b1 b2
  clear hra hrb e hb ha
  go_enter Try.func80, Try.ntmps80
  go_wp2_with fail
  go_quiet_grown (first | (go_at_call 43; refine gro_calls (HC.out _)))
  go_wp2
  go_ret
  exact ⟨rfl, (Gro.refl _).grown _ _⟩
end Go.Proofs.Ytmjokpakekfkfaa
