/- The laws' own sanity check, the example of the chapter. -/
import Derived.Test.YtndnlmpmloiiiaaDoorPx
import Derived.Test.YtndnlmpmloiiiaaDoorPv
import Derived.Test.YtndnlmpmloiiiaaDoorPi
set_option linter.unusedSimpArgs false
set_option linter.unusedVariables false
namespace Go.Proofs.YtndnlmpmloiiiaaDoor
open Go.RowKit

def exP : Pr := .mk 3 3 ⟨1, 0, nilV⟩ ⟨3, 0, ⟨4, 5, ⟨#[]⟩⟩⟩ []
def exN : Pr := .mk 6 0 zeroO zeroO [exP]
theorem v45 : validB (⟨4, 5, ⟨#[]⟩⟩ : V) = true := by simp [validB, validP, data_empty]
theorem v43 : validB (⟨4, 3, ⟨#[]⟩⟩ : V) = true := by simp [validB, validP, data_empty]
theorem ex_yes : holdsP [⟨4, 3, ⟨#[]⟩⟩] [] exP = true := by
  rw [holdsP_eq]
  show (if (3 : Int) = 1 then true else if (3 : Int) = 3 then cpB 3 (denV [⟨4, 3, ⟨#[]⟩⟩] [] ⟨1, 0, nilV⟩) (denV [⟨4, 3, ⟨#[]⟩⟩] [] ⟨3, 0, ⟨4, 5, ⟨#[]⟩⟩⟩) else _) = true
  rw [if_neg (by omega), if_pos rfl]
  have h1 : denV [⟨4, 3, ⟨#[]⟩⟩] [] ⟨1, 0, nilV⟩ = ⟨4, 3, ⟨#[]⟩⟩ := rfl
  have h2 : denV [⟨4, 3, ⟨#[]⟩⟩] [] ⟨3, 0, ⟨4, 5, ⟨#[]⟩⟩⟩ = ⟨4, 5, ⟨#[]⟩⟩ := rfl
  rw [h1, h2]
  unfold cpB realB
  rw [v45, v43]
  have h3 : cmpV ⟨4, 3, ⟨#[]⟩⟩ ⟨4, 5, ⟨#[]⟩⟩ = -1 := rfl
  rw [h3]
  rfl
theorem ex_no : holdsP [⟨2, 0, ⟨#[]⟩⟩] [] exP = false := by
  rw [holdsP_eq]
  show (if (3 : Int) = 1 then true else if (3 : Int) = 3 then cpB 3 (denV [⟨2, 0, ⟨#[]⟩⟩] [] ⟨1, 0, nilV⟩) (denV [⟨2, 0, ⟨#[]⟩⟩] [] ⟨3, 0, ⟨4, 5, ⟨#[]⟩⟩⟩) else _) = false
  rw [if_neg (by omega), if_pos rfl]
  have h1 : denV [⟨2, 0, ⟨#[]⟩⟩] [] ⟨1, 0, nilV⟩ = ⟨2, 0, ⟨#[]⟩⟩ := rfl
  rw [h1]
  unfold cpB realB
  rw [show decide (3 ≤ (⟨2, 0, ⟨#[]⟩⟩ : V).k) = false from rfl, Bool.and_false]; rfl
theorem ex_not : holdsP [⟨2, 0, ⟨#[]⟩⟩] [] exN = true := by
  rw [holdsP_eq]
  show (if (6 : Int) = 1 then true else if (6 : Int) = 3 then _ else if (6 : Int) = 4 then _ else if (6 : Int) = 5 then _ else if (6 : Int) = 6 then failsHead [⟨2, 0, ⟨#[]⟩⟩] [] [exP] else false) = true
  rw [if_neg (by omega), if_neg (by omega), if_neg (by omega), if_neg (by omega), if_pos rfl, failsHead, ex_no]; rfl
theorem ex_colsP : colsP exN = [0] := by
  unfold exN exP
  rw [colsP_eq, if_neg (by omega), colsL, colsL, colsP_eq, if_pos rfl, colsL]; rfl
theorem ex_cols : (colsV exN).length = 1 := by
  unfold colsV sortedI
  rw [ex_colsP, List.mergeSort_singleton]; rfl
theorem ex_check : checkE [] [] exP = 50 := by
  unfold checkE
  rw [if_neg (by simp [kindsB])]
  have h1 : countP exP = 1 := by unfold exP; rw [countP, countL]
  have h2 : depthP exP = 1 := by unfold exP; rw [depthP, depthL]
  have h3 : validR [] [] exP = false := by
    unfold exP
    rw [validR]
    have : rnodeB [] [] 3 3 ⟨1, 0, nilV⟩ ⟨3, 0, ⟨4, 5, ⟨#[]⟩⟩⟩ ([] : List Pr).length = false := by
      unfold rnodeB comparesB
      have hk : kindO [] [] ⟨1, 0, nilV⟩ = 0 := by unfold kindO kAt; simp
      rw [hk]; simp
    rw [this]; rfl
  rw [h1, h2, h3]; rfl
/-- The world of the example behind its four blocks and its first row. -/
abbrev exW (w : World) : World :=
  ((((w.alloc (pBlock exP (.slice none 0 0) 29)).alloc (pBlock exP (.slice none 0 0) 29)).alloc (pBlock exN (.slice (some ⟨w.heap.size + 1, 0, none⟩) 1 1) 29)).alloc (.cells #[.int .i64 2, .int .i64 0, .string ⟨#[]⟩] 24)).alloc (.cells #[.int .i64 4, .int .i64 3, .string ⟨#[]⟩] 24)
theorem exW_gro (w : World) : Gro w (exW w) := (((((Gro.refl w).alloc _).alloc _).alloc _).alloc _).alloc _
theorem row_one {w : World} {g : Nat} {v : V} (h : g < w.heap.size) (ha : At w g 0 v) : RowAt w (.slice (some ⟨g, 0, none⟩) 1 1) [v] :=
  ⟨_, 1, rfl, by simp, .inr ⟨g, 0, rfl, h, fun i hi => by obtain rfl : i = 0 := by simpa using hi
                                                          exact ha⟩⟩
theorem exW_rows (w : World) : RowAt (exW w) (.slice (some ⟨w.heap.size + 1 + 1 + 1 + 1, 0, none⟩) 1 1) [⟨4, 3, ⟨#[]⟩⟩] ∧ RowAt (exW w) (.slice (some ⟨w.heap.size + 1 + 1 + 1, 0, none⟩) 1 1) [⟨2, 0, ⟨#[]⟩⟩] :=
  ⟨row_one (by simp) ⟨by go_simp, by go_simp, by go_simp⟩, row_one (by simp <;> omega) ⟨by go_simp, by go_simp, by go_simp⟩⟩
theorem exW_box (w : World) : PBox (exW w) w.heap.size exP (.slice none 0 0) ∧ PBox (exW w) (w.heap.size + 1 + 1) exN (.slice (some ⟨w.heap.size + 1, 0, none⟩) 1 1) := by
  constructor
  · refine (PBox.new w exP _ 29).later ?_
    exact ((((Below.refl _ _).alloc (by simp) _).alloc (by simp <;> omega) _).alloc (by simp <;> omega) _).alloc (by simp <;> omega) _
  · have h := PBox.new ((w.alloc (pBlock exP (.slice none 0 0) 29)).alloc (pBlock exP (.slice none 0 0) 29)) exN (.slice (some ⟨w.heap.size + 1, 0, none⟩) 1 1) 29
    have h' := h.later (((Below.refl _ _).alloc (by simp) (.cells #[.int .i64 2, .int .i64 0, .string ⟨#[]⟩] 24)).alloc (by simp) (.cells #[.int .i64 4, .int .i64 3, .string ⟨#[]⟩] 24))
    simpa using h'
theorem exW_in (w : World) : PrIn (fun _ => True) (exW w) 1 (.slice (some ⟨w.heap.size + 1, 0, none⟩) 1 1) [exP] := by
  refine ⟨_, 1, rfl, by simp, .inr ⟨w.heap.size + 1, 0, rfl, by simp <;> omega, trivial, fun i hi => ?_⟩⟩
  obtain rfl : i = 0 := by simpa using hi
  refine ⟨.slice none 0 0, ?_, PrIn.nil 0 none 0⟩
  have h := PBox.new (w.alloc (pBlock exP (.slice none 0 0) 29)) exP (.slice none 0 0) 29
  have h' := h.later ((((Below.refl _ _).alloc (by simp) (pBlock exN (.slice (some ⟨w.heap.size + 1, 0, none⟩) 1 1) 29)).alloc (by simp <;> omega) (.cells #[.int .i64 2, .int .i64 0, .string ⟨#[]⟩] 24)).alloc (by simp <;> omega) (.cells #[.int .i64 4, .int .i64 3, .string ⟨#[]⟩] 24))
  have h2 : PBox (exW w) (w.heap.size + 1) exP (.slice none 0 0) := by simpa using h'
  exact ⟨h2.c0, h2.c1, h2.c2, h2.c3, h2.c4, h2.c5, h2.c6, h2.c7, h2.c8, h2.c9, h2.c10, h2.c11, h2.c12⟩
theorem exP_val : exP.val (.slice none 0 0) = .agg #[.int .i64 3, .int .i64 3, .int .i64 1, .int .i64 0, .int .i64 0, .int .i64 0, .string ⟨#[]⟩, .int .i64 3, .int .i64 0, .int .i64 4, .int .i64 5, .string ⟨#[]⟩, .slice none 0 0] := rfl
set_option maxHeartbeats 4000000 in
set_option maxRecDepth 100000 in
theorem begun_calls (w : World) (hs : Shapes w) : Calls Tryd.prog 12 #[] w fun e w' => e = .returned (.bool true) ∧ Below w.heap.size w w' := by
  have hg := exW_gro w
  have HR1 := Lib.hid (exW_rows w).1
  have HR2 := Lib.hid (exW_rows w).2
  have HB1 := Lib.hid (exW_box w).1
  have HB2 := Lib.hid (exW_box w).2
  have HIN := Lib.hid (exW_in w)
  have HS := Lib.hid (hs.later hg.below)
  have HG := Lib.hid hg
  obtain ⟨W, hW⟩ : ∃ W, W = exW w := ⟨_, rfl⟩
  rw [← hW] at HR1 HR2 HB1 HB2 HIN HS HG
  replace hW : W = ((((w.alloc (.cells #[.int .i64 3, .int .i64 3, .int .i64 1, .int .i64 0, .int .i64 0, .int .i64 0, .string ⟨#[]⟩, .int .i64 3, .int .i64 0, .int .i64 4, .int .i64 5, .string ⟨#[]⟩, .slice none 0 0] 29)).alloc (.cells #[.int .i64 3, .int .i64 3, .int .i64 1, .int .i64 0, .int .i64 0, .int .i64 0, .string ⟨#[]⟩, .int .i64 3, .int .i64 0, .int .i64 4, .int .i64 5, .string ⟨#[]⟩, .slice none 0 0] 29)).alloc (.cells #[.int .i64 6, .int .i64 0, .int .i64 0, .int .i64 0, .int .i64 0, .int .i64 0, .string ⟨#[]⟩, .int .i64 0, .int .i64 0, .int .i64 0, .int .i64 0, .string ⟨#[]⟩, .slice (some ⟨w.heap.size + 1, 0, none⟩) 1 1] 29)).alloc (.cells #[.int .i64 2, .int .i64 0, .string ⟨#[]⟩] 24)).alloc (.cells #[.int .i64 4, .int .i64 3, .string ⟨#[]⟩] 24) := hW
  have HW := Lib.hid hW
  have HC1 : Hid (∀ w', Below W.heap.size W w' → Calls Tryd.prog 17 #[.agg #[.int .i64 3, .int .i64 3, .int .i64 1, .int .i64 0, .int .i64 0, .int .i64 0, .string ⟨#[]⟩, .int .i64 3, .int .i64 0, .int .i64 4, .int .i64 5, .string ⟨#[]⟩, .slice none 0 0], .slice (some ⟨w.heap.size + 1 + 1 + 1 + 1, 0, none⟩) 1 1, .slice none 0 0] w' (BoolG true w')) := fun w' hw => by
    have h := holds_at (fun _ => True) (.slice (some ⟨w.heap.size + 1 + 1 + 1 + 1, 0, none⟩) 1 1) (.slice none 0 0) [⟨4, 3, ⟨#[]⟩⟩] [] 0 exP (.slice none 0 0) w' (HR1.out.later hw) ⟨none, 0, rfl, by simp, .inl rfl⟩ (PrIn.nil 0 none 0)
    rw [ex_yes] at h
    exact h
  have HC2 : Hid (∀ w', Below W.heap.size W w' → Calls Tryd.prog 17 #[.agg #[.int .i64 3, .int .i64 3, .int .i64 1, .int .i64 0, .int .i64 0, .int .i64 0, .string ⟨#[]⟩, .int .i64 3, .int .i64 0, .int .i64 4, .int .i64 5, .string ⟨#[]⟩, .slice none 0 0], .slice (some ⟨w.heap.size + 1 + 1 + 1, 0, none⟩) 1 1, .slice none 0 0] w' (BoolG false w')) := fun w' hw => by
    have h := holds_at (fun _ => True) (.slice (some ⟨w.heap.size + 1 + 1 + 1, 0, none⟩) 1 1) (.slice none 0 0) [⟨2, 0, ⟨#[]⟩⟩] [] 0 exP (.slice none 0 0) w' (HR2.out.later hw) ⟨none, 0, rfl, by simp, .inl rfl⟩ (PrIn.nil 0 none 0)
    rw [ex_no] at h
    exact h
  have HC3 : Hid (∀ w', Below W.heap.size W w' → Calls Tryd.prog 17 #[.agg #[.int .i64 6, .int .i64 0, .int .i64 0, .int .i64 0, .int .i64 0, .int .i64 0, .string ⟨#[]⟩, .int .i64 0, .int .i64 0, .int .i64 0, .int .i64 0, .string ⟨#[]⟩, .slice (some ⟨w.heap.size + 1, 0, none⟩) 1 1], .slice (some ⟨w.heap.size + 1 + 1 + 1, 0, none⟩) 1 1, .slice none 0 0] w' (BoolG true w')) := fun w' hw => by
    have h := holds_at (fun _ => True) (.slice (some ⟨w.heap.size + 1 + 1 + 1, 0, none⟩) 1 1) (.slice none 0 0) [⟨2, 0, ⟨#[]⟩⟩] [] 1 exN (.slice (some ⟨w.heap.size + 1, 0, none⟩) 1 1) w' (HR2.out.later hw) ⟨none, 0, rfl, by simp, .inl rfl⟩ (HIN.out.later hw)
    rw [ex_not] at h
    exact h
  have HC4 : Hid (∀ w', Below W.heap.size W w' → Calls Tryd.prog 22 #[.agg #[.int .i64 6, .int .i64 0, .int .i64 0, .int .i64 0, .int .i64 0, .int .i64 0, .string ⟨#[]⟩, .int .i64 0, .int .i64 0, .int .i64 0, .int .i64 0, .string ⟨#[]⟩, .slice (some ⟨w.heap.size + 1, 0, none⟩) 1 1]] w' (ColOut (colsV exN) w')) := fun w' hw =>
    columns_calls (fun _ => True) 1 exN (.slice (some ⟨w.heap.size + 1, 0, none⟩) 1 1) w' (HIN.out.later hw) (by rw [ex_colsP]; simp)
  have HC5 : Hid (∀ w', Below W.heap.size W w' → Calls Tryd.prog 13 #[.slice none 0 0, .slice none 0 0, .agg #[.int .i64 3, .int .i64 3, .int .i64 1, .int .i64 0, .int .i64 0, .int .i64 0, .string ⟨#[]⟩, .int .i64 3, .int .i64 0, .int .i64 4, .int .i64 5, .string ⟨#[]⟩, .slice none 0 0]] w' (IntG 50 w')) := fun w' hw => by
    have h := check_calls (fun _ => True) (fun _ => True) (fun _ => True) (.slice none 0 0) (.slice none 0 0) [] [] 0 exP (.slice none 0 0) w' (HS.out.later hw) (IntsAt.nil none 0) (IntsAt.nil none 0) (PrIn.nil 0 none 0)
    rw [ex_check] at h
    exact h
  have HBX1 : Hid (∀ w', Below W.heap.size W w' → PBox w' w.heap.size exP (.slice none 0 0)) := fun w' hw => HB1.out.later hw
  have HBX2 : Hid (∀ w', Below W.heap.size W w' → PBox w' (w.heap.size + 1 + 1) exN (.slice (some ⟨w.heap.size + 1, 0, none⟩) 1 1)) := fun w' hw => HB2.out.later hw
  clear hs hg hW HR1 HR2 HB1 HB2 HIN HS
  have HLN := Lib.hid ex_cols
  go_enter Tryd.func12, Tryd.ntmps12
  go_wp2_with fail
  rw [← HW.out]
  refine (HC1.out W (Below.refl _ _)).mono ?_
  rintro e w1 ⟨rfl, hg1⟩
  have hw1 := hg1.below
  obtain ⟨l, b0, b1, b2, b3, b4, b5, b6, b7, b8, b9, b10, b11, b12⟩ := HBX1.out w1 hw1
  simp only [exP, Pr.op, Pr.cmp, Pr.l, Pr.r, Pr.args, nilV] at b0 b1 b2 b3 b4 b5 b6 b7 b8 b9 b10 b11 b12
  have HW1 := Lib.hid hw1
  clear hg1 hw1 HW
  go_wp2_with fail
  refine (HC2.out w1 HW1.out).mono ?_
  rintro e w2 ⟨rfl, hg2⟩
  have hw2 := HW1.out.trans (hg2.below.mono HW1.out.size)
  obtain ⟨l, b0, b1, b2, b3, b4, b5, b6, b7, b8, b9, b10, b11, b12⟩ := HBX2.out w2 hw2
  simp only [exN, zeroO, Pr.op, Pr.cmp, Pr.l, Pr.r, Pr.args, nilV] at b0 b1 b2 b3 b4 b5 b6 b7 b8 b9 b10 b11 b12
  have HW2 := Lib.hid hw2
  clear hg2 hw2 HW1
  go_wp2_with fail
  refine (HC3.out w2 HW2.out).mono ?_
  rintro e w3 ⟨rfl, hg3⟩
  have hw3 := HW2.out.trans (hg3.below.mono HW2.out.size)
  obtain ⟨l, b0, b1, b2, b3, b4, b5, b6, b7, b8, b9, b10, b11, b12⟩ := HBX2.out w3 hw3
  simp only [exN, zeroO, Pr.op, Pr.cmp, Pr.l, Pr.r, Pr.args, nilV] at b0 b1 b2 b3 b4 b5 b6 b7 b8 b9 b10 b11 b12
  have HW3 := Lib.hid hw3
  clear hg3 hw3 HW2
  go_wp2_with fail
  refine (HC4.out w3 HW3.out).mono ?_
  rintro e w4 ⟨v4, rfl, hb4, hi4⟩
  have hw4 := HW3.out.trans (hb4.mono HW3.out.size)
  obtain ⟨a4, cap4, rfl, -⟩ := hi4.slice
  rw [HLN.out]
  obtain ⟨l, b0, b1, b2, b3, b4, b5, b6, b7, b8, b9, b10, b11, b12⟩ := HBX1.out w4 hw4
  simp only [exP, Pr.op, Pr.cmp, Pr.l, Pr.r, Pr.args, nilV] at b0 b1 b2 b3 b4 b5 b6 b7 b8 b9 b10 b11 b12
  have HW4 := Lib.hid hw4
  clear hb4 hw4 HW3 hi4
  go_wp2_with fail
  refine (HC5.out w4 HW4.out).mono ?_
  rintro e w5 ⟨rfl, hg5⟩
  have HW5 := Lib.hid (HW4.out.trans (hg5.below.mono HW4.out.size))
  clear hg5
  go_wp2
  go_ret
  exact ⟨rfl, HG.out.below.trans (HW5.out.mono HG.out.size)⟩
end Go.Proofs.YtndnlmpmloiiiaaDoor
