/- The contracts of predicate.compare and denoted, and of the reference's Compares and denoted. -/
import Derived.Test.YtndnlmpmloiiiaaDoorPb
set_option linter.unusedSimpArgs false
set_option linter.unusedVariables false
namespace Go.Proofs.YtndnlmpmloiiiaaDoor
open Go.RowKit

theorem cpB_eq (cmp : Int) (a b : V) : cpB cmp a b = (decide (a.k = b.k) && realB a && realB b && ordB cmp (cmpV a b)) := by
  unfold cpB; cases realB a <;> cases realB b <;> cases decide (a.k = b.k) <;> rfl
theorem eqin_fn {P : Program} {t : TypeId} {ps rs : Array TypeId} {vd : Bool} (d : Nat) (h : P.underlying t = some (.func ps rs vd)) (f : Fn) (x y : Array Value) (w : World) : (Op.equalIn (d + 1) t (.func f x y) .nilFunc).run P w = .ok false w := by
  simp [Op.equalIn, run_underlying h]
theorem eqin_nil {P : Program} {t : TypeId} {ps rs : Array TypeId} {vd : Bool} (d : Nat) (h : P.underlying t = some (.func ps rs vd)) (w : World) : (Op.equalIn (d + 1) t .nilFunc .nilFunc).run P w = .ok true w := by
  simp [Op.equalIn, run_underlying h]
theorem fn_ne_nil (f : Fn) (x y : Array Value) (w : World) : (binOp .eql 83 (.func f x y) .nilFunc).run Tryd.prog w = .ok (.bool false) w := by
  simp only [binOp]
  simp [Op.equal, Op.maxDepth, eqin_fn 9999 Tryd.underlying83 f x y w]
theorem fn_eq_nil (w : World) : (binOp .eql 83 .nilFunc .nilFunc).run Tryd.prog w = .ok (.bool true) w := by
  simp only [binOp]
  simp [Op.equal, Op.maxDepth, eqin_nil 9999 Tryd.underlying83 w]
/-- The cells of two values' boxes, side by side. -/
structure Two3 (w : World) (g : Nat) (a b : V) : Prop where
  l0 : g < w.heap.size
  l1 : g + 1 < w.heap.size
  a0 : w.cell? ⟨g, 0, none⟩ = some (.int .i64 a.k)
  a1 : w.cell? ⟨g, 1, none⟩ = some (.int .i64 a.n)
  a2 : w.cell? ⟨g, 2, none⟩ = some (.string a.t)
  b0 : w.cell? ⟨g + 1, 0, none⟩ = some (.int .i64 b.k)
  b1 : w.cell? ⟨g + 1, 1, none⟩ = some (.int .i64 b.n)
  b2 : w.cell? ⟨g + 1, 2, none⟩ = some (.string b.t)
theorem Two3.new (w : World) (a b : V) (T : TypeId) : Two3 ((w.alloc (.cells #[.int .i64 a.k, .int .i64 a.n, .string a.t] T)).alloc (.cells #[.int .i64 b.k, .int .i64 b.n, .string b.t] T)) w.heap.size a b :=
  ⟨by simp; omega, by simp, by go_simp, by go_simp, by go_simp, by go_simp, by go_simp, by go_simp⟩
theorem Two3.later {w w' : World} {g : Nat} {a b : V} (h : Two3 w g a b) (hw : Below w.heap.size w w') : Two3 w' g a b :=
  ⟨Nat.lt_of_lt_of_le h.l0 hw.size, Nat.lt_of_lt_of_le h.l1 hw.size, (hw.cell (p := ⟨g, 0, none⟩) h.l0).trans h.a0, (hw.cell (p := ⟨g, 1, none⟩) h.l0).trans h.a1, (hw.cell (p := ⟨g, 2, none⟩) h.l0).trans h.a2,
    (hw.cell (p := ⟨g + 1, 0, none⟩) h.l1).trans h.b0, (hw.cell (p := ⟨g + 1, 1, none⟩) h.l1).trans h.b1, (hw.cell (p := ⟨g + 1, 2, none⟩) h.l1).trans h.b2⟩
set_option maxHeartbeats 4000000 in
set_option maxRecDepth 100000 in
theorem pcompare_calls (a : V) (cmp : Int) (b : V) (w : World) : Calls Tryd.prog 41 #[a.val, .int .i64 cmp, b.val] w (BoolG (cpB cmp a b) w) := by
  have hT := Two3.new w a b 24
  obtain ⟨q, hq⟩ : ∃ q, cpB cmp a b = q := ⟨_, rfl⟩
  rw [hq]
  rw [cpB_eq] at hq
  have HQ := Lib.hid hq
  have HRA := Lib.hid (fun w' => real_calls a w')
  have HRB := Lib.hid (fun w' => real_calls b w')
  have HCM := Lib.hid (fun w' => compare_calls a b w')
  obtain ⟨ra, hra⟩ : ∃ r, realB a = r := ⟨_, rfl⟩
  obtain ⟨rb, hrb⟩ : ∃ r, realB b = r := ⟨_, rfl⟩
  obtain ⟨d, hd⟩ : ∃ d, cmpV a b = d := ⟨_, rfl⟩
  rw [hra] at HRA HQ
  rw [hrb] at HRB HQ
  rw [hd] at HCM HQ
  clear hq hra hrb hd
  obtain ⟨ak, an, at_⟩ := a
  obtain ⟨bk, bn, bt⟩ := b
  replace HQ : Hid ((decide (ak = bk) && ra && rb && ordB cmp d) = q) := HQ.out
  obtain ⟨W0, hW0⟩ : ∃ W, W = (w.alloc (.cells #[.int .i64 ak, .int .i64 an, .string at_] 24)).alloc (.cells #[.int .i64 bk, .int .i64 bn, .string bt] 24) := ⟨_, rfl⟩
  have hg0 : Gro w W0 := by rw [hW0]; exact ((Gro.refl w).alloc _).alloc _
  replace hT : Two3 W0 w.heap.size ⟨ak, an, at_⟩ ⟨bk, bn, bt⟩ := by rw [hW0]; exact hT
  have HT := Lib.hid hT
  have HW0 := Lib.hid hW0
  have HG0 := Lib.hid hg0
  clear hT hW0 hg0
  have HCO := Lib.hid (comparison_calls cmp W0)
  go_enter Tryd.func41, Tryd.ntmps41
  go_wp2_with fail
  rw [← HW0.out]
  refine HCO.out.mono ?_
  rintro e W ⟨he, hg⟩
  subst he
  obtain ⟨l0, l1, a0, a1, a2, b0, b1, b2⟩ := HT.out.later hg.below
  have HG := Lib.hid (HG0.out.trans hg)
  clear HT HW0 HG0 hg HCO
  generalize w.heap.size = gb at l0 l1 a0 a1 a2 b0 b1 b2 ⊢
  simp only at a0 a1 a2 b0 b1 b2
  have hf1 := fn_ne_nil
  have hf2 := fn_eq_nil
  by_cases hc : cmp < 1 ∨ 6 < cmp
  · have HE : Hid (false = q) := by show _ = _; rw [← HQ.out]; unfold ordB; rw [if_neg (by omega), if_neg (by omega), if_neg (by omega), if_neg (by omega), if_neg (by omega), if_neg (by omega), Bool.and_false]
    rw [fn_none hc]
    clear hc
    go_wp2
    go_ret
    exact boolg HE.out HG.out
  by_cases hk : ak = bk
  · subst hk
    rw [show decide (ak = ak) = true from by simp, Bool.true_and] at HQ
    cases ra with
    | true =>
      rw [Bool.true_and] at HQ
      cases rb with
      | true =>
        rw [Bool.true_and] at HQ
        have h6 : cmp = 1 ∨ cmp = 2 ∨ cmp = 3 ∨ cmp = 4 ∨ cmp = 5 ∨ cmp = 6 := by omega
        clear hc
        rcases h6 with rfl | rfl | rfl | rfl | rfl | rfl
        · have HE : Hid ((decide (d = 0)) = q) := HQ.out
          have HF := Lib.hid (fun w' => isEqual_calls d w')
          clear HQ
          go_wp2_with fail
          refine (wide (HRA.out W)).mono ?_
          rintro e w1 ⟨q1, os1, rfl, rfl⟩
          go_wp2_with fail
          refine (wide (HRB.out _)).mono ?_
          rintro e w1 ⟨q1, os1, rfl, rfl⟩
          go_wp2_with fail
          refine (wide (HCM.out _)).mono ?_
          rintro e w1 ⟨q1, os1, rfl, rfl⟩
          go_wp2_with fail
          refine (HF.out _).mono ?_
          rintro e w1 ⟨rfl, hg1⟩
          have HG1 : Hid (Gro w w1) := (HG.out.grown _ _).trans hg1
          clear hg1
          go_wp2
          go_ret
          exact boolg HE.out HG1.out
        · have HE : Hid ((!decide (d = 0)) = q) := HQ.out
          have HF := Lib.hid (fun w' => isNotEqual_calls d w')
          clear HQ
          go_wp2_with fail
          refine (wide (HRA.out W)).mono ?_
          rintro e w1 ⟨q1, os1, rfl, rfl⟩
          go_wp2_with fail
          refine (wide (HRB.out _)).mono ?_
          rintro e w1 ⟨q1, os1, rfl, rfl⟩
          go_wp2_with fail
          refine (wide (HCM.out _)).mono ?_
          rintro e w1 ⟨q1, os1, rfl, rfl⟩
          go_wp2_with fail
          refine (HF.out _).mono ?_
          rintro e w1 ⟨rfl, hg1⟩
          have HG1 : Hid (Gro w w1) := (HG.out.grown _ _).trans hg1
          clear hg1
          go_wp2
          go_ret
          exact boolg HE.out HG1.out
        · have HE : Hid ((decide (d < 0)) = q) := HQ.out
          have HF := Lib.hid (fun w' => isLess_calls d w')
          clear HQ
          go_wp2_with fail
          refine (wide (HRA.out W)).mono ?_
          rintro e w1 ⟨q1, os1, rfl, rfl⟩
          go_wp2_with fail
          refine (wide (HRB.out _)).mono ?_
          rintro e w1 ⟨q1, os1, rfl, rfl⟩
          go_wp2_with fail
          refine (wide (HCM.out _)).mono ?_
          rintro e w1 ⟨q1, os1, rfl, rfl⟩
          go_wp2_with fail
          refine (HF.out _).mono ?_
          rintro e w1 ⟨rfl, hg1⟩
          have HG1 : Hid (Gro w w1) := (HG.out.grown _ _).trans hg1
          clear hg1
          go_wp2
          go_ret
          exact boolg HE.out HG1.out
        · have HE : Hid ((decide (d ≤ 0)) = q) := HQ.out
          have HF := Lib.hid (fun w' => isLessOrEqual_calls d w')
          clear HQ
          go_wp2_with fail
          refine (wide (HRA.out W)).mono ?_
          rintro e w1 ⟨q1, os1, rfl, rfl⟩
          go_wp2_with fail
          refine (wide (HRB.out _)).mono ?_
          rintro e w1 ⟨q1, os1, rfl, rfl⟩
          go_wp2_with fail
          refine (wide (HCM.out _)).mono ?_
          rintro e w1 ⟨q1, os1, rfl, rfl⟩
          go_wp2_with fail
          refine (HF.out _).mono ?_
          rintro e w1 ⟨rfl, hg1⟩
          have HG1 : Hid (Gro w w1) := (HG.out.grown _ _).trans hg1
          clear hg1
          go_wp2
          go_ret
          exact boolg HE.out HG1.out
        · have HE : Hid ((decide (0 < d)) = q) := HQ.out
          have HF := Lib.hid (fun w' => isGreater_calls d w')
          clear HQ
          go_wp2_with fail
          refine (wide (HRA.out W)).mono ?_
          rintro e w1 ⟨q1, os1, rfl, rfl⟩
          go_wp2_with fail
          refine (wide (HRB.out _)).mono ?_
          rintro e w1 ⟨q1, os1, rfl, rfl⟩
          go_wp2_with fail
          refine (wide (HCM.out _)).mono ?_
          rintro e w1 ⟨q1, os1, rfl, rfl⟩
          go_wp2_with fail
          refine (HF.out _).mono ?_
          rintro e w1 ⟨rfl, hg1⟩
          have HG1 : Hid (Gro w w1) := (HG.out.grown _ _).trans hg1
          clear hg1
          go_wp2
          go_ret
          exact boolg HE.out HG1.out
        · have HE : Hid ((decide (0 ≤ d)) = q) := HQ.out
          have HF := Lib.hid (fun w' => isGreaterOrEqual_calls d w')
          clear HQ
          go_wp2_with fail
          refine (wide (HRA.out W)).mono ?_
          rintro e w1 ⟨q1, os1, rfl, rfl⟩
          go_wp2_with fail
          refine (wide (HRB.out _)).mono ?_
          rintro e w1 ⟨q1, os1, rfl, rfl⟩
          go_wp2_with fail
          refine (wide (HCM.out _)).mono ?_
          rintro e w1 ⟨q1, os1, rfl, rfl⟩
          go_wp2_with fail
          refine (HF.out _).mono ?_
          rintro e w1 ⟨rfl, hg1⟩
          have HG1 : Hid (Gro w w1) := (HG.out.grown _ _).trans hg1
          clear hg1
          go_wp2
          go_ret
          exact boolg HE.out HG1.out
      | false =>
        have HE : Hid (false = q) := HQ.out
        have h6 : cmp = 1 ∨ cmp = 2 ∨ cmp = 3 ∨ cmp = 4 ∨ cmp = 5 ∨ cmp = 6 := by omega
        clear hc HQ
        rcases h6 with rfl | rfl | rfl | rfl | rfl | rfl
        all_goals
          go_wp2_with fail
          refine (wide (HRA.out W)).mono ?_
          rintro e w1 ⟨q1, os1, rfl, rfl⟩
          go_wp2_with fail
          refine (wide (HRB.out _)).mono ?_
          rintro e w1 ⟨q1, os1, rfl, rfl⟩
          go_wp2
          go_ret
          exact boolg HE.out (HG.out.grown _ _)
    | false =>
      have HE : Hid (false = q) := HQ.out
      have h6 : cmp = 1 ∨ cmp = 2 ∨ cmp = 3 ∨ cmp = 4 ∨ cmp = 5 ∨ cmp = 6 := by omega
      clear hc HQ
      rcases h6 with rfl | rfl | rfl | rfl | rfl | rfl
      all_goals
        go_wp2_with fail
        refine (wide (HRA.out W)).mono ?_
        rintro e w1 ⟨q1, os1, rfl, rfl⟩
        go_wp2
        go_ret
        exact boolg HE.out (HG.out.grown _ _)
  · rw [show decide (ak = bk) = false from by simp [hk]] at HQ
    have HE : Hid (false = q) := HQ.out
    have h6 : cmp = 1 ∨ cmp = 2 ∨ cmp = 3 ∨ cmp = 4 ∨ cmp = 5 ∨ cmp = 6 := by omega
    have hk2 : (ak == bk) = false := by simpa using hk
    clear hc HQ
    rcases h6 with rfl | rfl | rfl | rfl | rfl | rfl
    all_goals
      go_wp2
      go_ret
      exact boolg HE.out HG.out
end Go.Proofs.YtndnlmpmloiiiaaDoor
