/- From the row's condition on the package's table of shapes to its cells. -/
import Derived.Test.YtpmlhgakbpfgmaaDoorRows
import Derived.Test.YtpmlhgakbpfgmaaDoorPa
import Derived.Test.YtpmlhgakbpfgmaaDoorO
import Derived.ProofKit
import Derived.LaidMore
import Derived.OpenShut
import Derived.Stop.Joined
set_option linter.unusedSimpArgs false
set_option linter.unusedVariables false
namespace Go.Proofs.YtpmlhgakbpfgmaaDoor
open Go.ChangeShapes Go.WideShapes Go.ChangeAt Go.RowKit Go.Joins Go.Deep

/-- The one variable that the rows list. -/
abbrev laid1 : List (String × DataW Unit) := [("partsync/predicate.shapes", Rows.laid_partsync_predicate_shapes)]
theorem gShapes : Tryd.prog.globalNamed "partsync/predicate.shapes" = some 0 := by kernel_rfl
theorem tShapes : (Tryd.prog.globals[0]?).map (·.type) = some 120 := by kernel_rfl
/-- The door's own heap meets the condition. -/
theorem door_met (os : Os) (args : Array Value) : laidMetH Tryd.prog laid1 ((World.doorLaid Tryd.prog 400 os).forCall (fun _ _ => 0) ⟨#[], args, []⟩).memory :=
  laidMetH_of_parts3 (fuel := 8) (laidMet_of_run' 8 (by kernel_rfl) (by kernel_rfl)) (by kernel_rfl) (by kernel_rfl)
section
variable {H : Type} {enc : TypeId × Value → H} {w : World} {base : Nat} {spare : Nat → Bool} {held : Bool}
theorem open_shape {n : Nat} {c0 c1 c2 : Value} {b : Bool} {f m : Int} {pl : List MemPlace} (h : DataW.trod enc Tryd.prog w base spare held n 119 [c0, c1, c2] = some (.agg [.lit (.bool b), .lit (.int .i64 f), .lit (.int .i64 m)], pl)) :
    c0 = .bool b ∧ c1 = .int .i64 f ∧ c2 = .int .i64 m := by
  obtain ⟨y0, y1, y2, k, hx, _, h0, h1, h2⟩ := trod_struct3 Tryd.underlying119 h
  simp only [Prod.mk.injEq, DataW.agg.injEq, List.cons.injEq, and_true] at hx
  obtain ⟨⟨e0, e1, e2⟩, _⟩ := hx
  obtain ⟨a0, k0, x0⟩ := DataW.trod_bool Tryd.underlying4 h0
  obtain ⟨a1, k1, x1, _⟩ := DataW.trod_int Tryd.underlying3 h1
  obtain ⟨a2, k2, x2, _⟩ := DataW.trod_int Tryd.underlying3 h2
  subst x0 x1 x2
  simp at e0 e1 e2
  subst e0 e1 e2
  have s0 : Tryd.prog.cellsOf 4 = 1 := by kernel_rfl
  have s1 : Tryd.prog.cellsOf 3 = 1 := by kernel_rfl
  simp [s0] at k0
  simp [s1] at k1 k2
  exact ⟨k0, k1, k2⟩
end
set_option maxRecDepth 100000 in
theorem shapes_of_laid {W : World} (h : laidMetH Tryd.prog laid1 W) : Shapes W := by
  rw [MakeChecks.laidMetH_plain _ _ _ (by kernel_rfl)] at h
  obtain ⟨ps, ⟨g, t, cs, fuel, p, q, hg, ht, hvar, hd, _, _⟩, _⟩ := h
  obtain rfl := Option.some.inj (gShapes.symm.trans hg)
  obtain rfl := Option.some.inj (tShapes.symm.trans ht)
  have hcell := fun j => World.var?_cell hg hvar j
  have c99 : Tryd.prog.cellsOf 119 = 3 := by kernel_rfl
  have c100 : Tryd.prog.cellsOf 120 = 21 := by kernel_rfl
  obtain ⟨xs, m, rfl, hx, hlen, hn, hel⟩ := DataW.trod_array Tryd.underlying120 hd
  rw [c100] at hlen
  rw [c99] at hel
  obtain ⟨l⟩ := cs
  simp only at hlen hel hcell
  match l, hlen with
  | [x0, x1, x2, x3, x4, x5, x6, x7, x8, x9, x10, x11, x12, x13, x14, x15, x16, x17, x18, x19, x20], _ =>
    match xs, hn with
    | [y0, y1, y2, y3, y4, y5, y6], _ =>
      simp only [Rows.laid_partsync_predicate_shapes, Prod.mk.injEq, DataW.agg.injEq, List.map_cons, List.map_nil, List.cons.injEq, and_true] at hx
      obtain ⟨⟨e0, e1, e2, e3, e4, e5, e6⟩, _⟩ := hx
      obtain ⟨d0, q0⟩ := y0
      simp only at e0
      subst e0
      have h0 : DataW.trod _ Tryd.prog W 0 _ false m 119 [x0, x1, x2] = some (.agg [.lit (.bool false), .lit (.int .i64 0), .lit (.int .i64 0)], q0) := hel 0 (by decide)
      obtain ⟨rfl, rfl, rfl⟩ := open_shape h0
      obtain ⟨d1, q1⟩ := y1
      simp only at e1
      subst e1
      have h1 : DataW.trod _ Tryd.prog W 0 _ false m 119 [x3, x4, x5] = some (.agg [.lit (.bool false), .lit (.int .i64 0), .lit (.int .i64 0)], q1) := hel 1 (by decide)
      obtain ⟨rfl, rfl, rfl⟩ := open_shape h1
      obtain ⟨d2, q2⟩ := y2
      simp only at e2
      subst e2
      have h2 : DataW.trod _ Tryd.prog W 0 _ false m 119 [x6, x7, x8] = some (.agg [.lit (.bool false), .lit (.int .i64 0), .lit (.int .i64 0)], q2) := hel 2 (by decide)
      obtain ⟨rfl, rfl, rfl⟩ := open_shape h2
      obtain ⟨d3, q3⟩ := y3
      simp only at e3
      subst e3
      have h3 : DataW.trod _ Tryd.prog W 0 _ false m 119 [x9, x10, x11] = some (.agg [.lit (.bool true), .lit (.int .i64 0), .lit (.int .i64 0)], q3) := hel 3 (by decide)
      obtain ⟨rfl, rfl, rfl⟩ := open_shape h3
      obtain ⟨d4, q4⟩ := y4
      simp only at e4
      subst e4
      have h4 : DataW.trod _ Tryd.prog W 0 _ false m 119 [x12, x13, x14] = some (.agg [.lit (.bool false), .lit (.int .i64 0), .lit (.int .i64 24)], q4) := hel 4 (by decide)
      obtain ⟨rfl, rfl, rfl⟩ := open_shape h4
      obtain ⟨d5, q5⟩ := y5
      simp only at e5
      subst e5
      have h5 : DataW.trod _ Tryd.prog W 0 _ false m 119 [x15, x16, x17] = some (.agg [.lit (.bool false), .lit (.int .i64 0), .lit (.int .i64 24)], q5) := hel 5 (by decide)
      obtain ⟨rfl, rfl, rfl⟩ := open_shape h5
      obtain ⟨d6, q6⟩ := y6
      simp only at e6
      subst e6
      have h6 : DataW.trod _ Tryd.prog W 0 _ false m 119 [x18, x19, x20] = some (.agg [.lit (.bool false), .lit (.int .i64 1), .lit (.int .i64 1)], q6) := hel 6 (by decide)
      obtain ⟨rfl, rfl, rfl⟩ := open_shape h6
      have hl : 0 < W.heap.size := by
        have h0 := hcell 0
        simp only [World.cell?] at h0
        by_cases h : 0 < W.heap.size
        · exact h
        · rw [Array.getElem?_eq_none (by omega)] at h0; simp at h0
      refine ⟨hl, fun i hi => ?_, fun i hi => ?_, fun i hi => ?_⟩
      all_goals
        rw [hcell]
        obtain rfl | rfl | rfl | rfl | rfl | rfl | rfl : i = 0 ∨ i = 1 ∨ i = 2 ∨ i = 3 ∨ i = 4 ∨ i = 5 ∨ i = 6 := by omega
        all_goals rfl
end Go.Proofs.YtpmlhgakbpfgmaaDoor
