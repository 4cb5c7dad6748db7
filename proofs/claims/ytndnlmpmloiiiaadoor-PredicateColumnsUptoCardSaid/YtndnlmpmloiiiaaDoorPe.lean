/- The contracts of predicate.denoted and of the reference's Compares and denoted. -/
import Derived.Test.YtndnlmpmloiiiaaDoorPd
set_option linter.unusedSimpArgs false
set_option linter.unusedVariables false
namespace Go.Proofs.YtndnlmpmloiiiaaDoor
open Go.RowKit

/-- The cells of an operand's box and of a value's behind it. -/
structure OdV (w : World) (g : Nat) (o : Od) : Prop where
  l0 : g < w.heap.size
  l1 : g + 1 < w.heap.size
  a0 : w.cell? ⟨g, 0, none⟩ = some (.int .i64 o.k)
  a1 : w.cell? ⟨g, 1, none⟩ = some (.int .i64 o.i)
  a2 : w.cell? ⟨g, 2, none⟩ = some (.int .i64 o.v.k)
  a3 : w.cell? ⟨g, 3, none⟩ = some (.int .i64 o.v.n)
  a4 : w.cell? ⟨g, 4, none⟩ = some (.string o.v.t)
  b0 : w.cell? ⟨g + 1, 0, none⟩ = some (.int .i64 0)
  b1 : w.cell? ⟨g + 1, 1, none⟩ = some (.int .i64 0)
  b2 : w.cell? ⟨g + 1, 2, none⟩ = some (.string ⟨#[]⟩)
  f0 : w.frozen? ⟨g + 1, 0, none⟩ = false
  f1 : w.frozen? ⟨g + 1, 1, none⟩ = false
  f2 : w.frozen? ⟨g + 1, 2, none⟩ = false
theorem OdV.new (w : World) (o : Od) (T T' : TypeId) : OdV ((w.alloc (.cells #[.int .i64 o.k, .int .i64 o.i, .int .i64 o.v.k, .int .i64 o.v.n, .string o.v.t] T)).alloc (.cells #[.int .i64 0, .int .i64 0, .string ⟨#[]⟩] T')) w.heap.size o :=
  ⟨by simp; omega, by simp, by go_simp, by go_simp, by go_simp, by go_simp, by go_simp, by go_simp, by go_simp, by go_simp, by go_simp, by go_simp, by go_simp⟩
theorem OdV.later {w w' : World} {g : Nat} {o : Od} (h : OdV w g o) (hw : Below w.heap.size w w') : OdV w' g o :=
  ⟨Nat.lt_of_lt_of_le h.l0 hw.size, Nat.lt_of_lt_of_le h.l1 hw.size, (hw.cell (p := ⟨g, 0, none⟩) h.l0).trans h.a0, (hw.cell (p := ⟨g, 1, none⟩) h.l0).trans h.a1, (hw.cell (p := ⟨g, 2, none⟩) h.l0).trans h.a2, (hw.cell (p := ⟨g, 3, none⟩) h.l0).trans h.a3, (hw.cell (p := ⟨g, 4, none⟩) h.l0).trans h.a4,
    (hw.cell (p := ⟨g + 1, 0, none⟩) h.l1).trans h.b0, (hw.cell (p := ⟨g + 1, 1, none⟩) h.l1).trans h.b1, (hw.cell (p := ⟨g + 1, 2, none⟩) h.l1).trans h.b2,
    by rw [World.frozen?_of_block (w := w) (hw.block _ h.l1)]; exact h.f0, by rw [World.frozen?_of_block (w := w) (hw.block _ h.l1)]; exact h.f1, by rw [World.frozen?_of_block (w := w) (hw.block _ h.l1)]; exact h.f2⟩
theorem gro_three {a w : World} (h : Gro a w) {g : Nat} (hg : a.heap.size ≤ g) (x y z : Value) : Gro a (((w.setCell ⟨g, 0, none⟩ x).setCell ⟨g, 1, none⟩ y).setCell ⟨g, 2, none⟩ z) := ((h.setCell hg _).setCell hg _).setCell hg _
def ValG (v : V) (w : World) (e : Ending) (w' : World) : Prop := e = .returned v.val ∧ Gro w w'
set_option maxHeartbeats 1000000 in
set_option maxRecDepth 100000 in
theorem pdenoted_calls (o : Od) (va vb : Value) (row par : List V) (w : World) (ha : RowAt w va row) (hb : RowAt w vb par) : Calls Tryd.prog 42 #[o.val, va, vb] w (ValG (denV row par o) w) := by
  have hT := OdV.new w o 26 24
  obtain ⟨W0, hW0⟩ : ∃ W, W = (w.alloc (.cells #[.int .i64 o.k, .int .i64 o.i, .int .i64 o.v.k, .int .i64 o.v.n, .string o.v.t] 26)).alloc (.cells #[.int .i64 0, .int .i64 0, .string ⟨#[]⟩] 24) := ⟨_, rfl⟩
  have hg0 : Gro w W0 := by rw [hW0]; exact ((Gro.refl w).alloc _).alloc _
  rw [← hW0] at hT
  have HAA := Lib.hid (at_calls va row o.i W0 (ha.later hg0.below))
  have HAB := Lib.hid (at_calls vb par o.i W0 (hb.later hg0.below))
  have HD : Hid (denV row par o = if o.k = 1 then atV row o.i else if o.k = 2 then atV par o.i else if o.k = 3 then o.v else nilV) := rfl
  have HLT : Hid (w.heap.size + 1 < W0.heap.size) := hT.l1
  obtain ⟨ok, oi, ⟨vk, vn, vt⟩⟩ := o
  replace hW0 : W0 = (w.alloc (.cells #[.int .i64 ok, .int .i64 oi, .int .i64 vk, .int .i64 vn, .string vt] 26)).alloc (.cells #[.int .i64 0, .int .i64 0, .string ⟨#[]⟩] 24) := hW0
  replace HAA : Hid (Calls Tryd.prog 66 #[va, .int .i64 oi] W0 (AtOut row oi W0)) := HAA.out
  replace HAB : Hid (Calls Tryd.prog 66 #[vb, .int .i64 oi] W0 (AtOut par oi W0)) := HAB.out
  have HW0 := Lib.hid hW0
  have HG0 := Lib.hid hg0
  have HT := Lib.hid hT
  clear hT hW0 hg0 ha hb
  show Calls _ _ #[.agg #[.int .i64 ok, .int .i64 oi, .int .i64 vk, .int .i64 vn, .string vt], va, vb] _ _
  by_cases h1 : ok = 1
  · subst h1
    replace HD : Hid (denV row par ⟨1, oi, ⟨vk, vn, vt⟩⟩ = atV row oi) := HD.out
    show Calls _ _ _ _ (fun e w' => e = .returned (denV row par ⟨1, oi, ⟨vk, vn, vt⟩⟩).val ∧ Gro w w')
    rw [HD.out]
    replace HAA : Hid (Calls Tryd.prog 66 #[va, .int .i64 oi] W0 (fun e w' => e = .returned (.tuple #[(atV row oi).val, .bool (hasI row oi)]) ∧ Gro W0 w')) := HAA.out
    clear HD
    generalize atV row oi = x at HAA ⊢
    obtain ⟨xk, xn, xt⟩ := x
    obtain ⟨l0, l1, a0, a1, a2, a3, a4, b0, b1, b2, f0, f1, f2⟩ := HT.out
    simp only at a0 a1 a2 a3 a4
    go_enter Tryd.func42, Tryd.ntmps42
    go_wp2_with fail
    rw [← HW0.out]
    go_wp2_with fail
    refine HAA.out.mono ?_
    rintro e W ⟨rfl, hg⟩
    obtain ⟨l0, l1, a0, a1, a2, a3, a4, b0, b1, b2, f0, f1, f2⟩ := HT.out.later hg.below
    have HG := Lib.hid (HG0.out.trans hg)
    clear HT HW0 HG0 hg HAA HAB
    go_wp2
    exact bodyPost_ret (v := V.val ⟨xk, xn, xt⟩) (by simp [results, Tryd.results42, go_sem, V.val, l1, b0, b1, b2]; try rfl) rfl ⟨rfl, (gro_three HG.out (by omega) _ _ _).alloc _⟩
  by_cases h2 : ok = 2
  · subst h2
    clear h1
    replace HD : Hid (denV row par ⟨2, oi, ⟨vk, vn, vt⟩⟩ = atV par oi) := HD.out
    show Calls _ _ _ _ (fun e w' => e = .returned (denV row par ⟨2, oi, ⟨vk, vn, vt⟩⟩).val ∧ Gro w w')
    rw [HD.out]
    replace HAB : Hid (Calls Tryd.prog 66 #[vb, .int .i64 oi] W0 (fun e w' => e = .returned (.tuple #[(atV par oi).val, .bool (hasI par oi)]) ∧ Gro W0 w')) := HAB.out
    clear HD
    generalize atV par oi = x at HAB ⊢
    obtain ⟨xk, xn, xt⟩ := x
    obtain ⟨l0, l1, a0, a1, a2, a3, a4, b0, b1, b2, f0, f1, f2⟩ := HT.out
    simp only at a0 a1 a2 a3 a4
    go_enter Tryd.func42, Tryd.ntmps42
    go_wp2_with fail
    rw [← HW0.out]
    go_wp2_with fail
    refine HAB.out.mono ?_
    rintro e W ⟨rfl, hg⟩
    obtain ⟨l0, l1, a0, a1, a2, a3, a4, b0, b1, b2, f0, f1, f2⟩ := HT.out.later hg.below
    have HG := Lib.hid (HG0.out.trans hg)
    clear HT HW0 HG0 hg HAA HAB
    go_wp2
    exact bodyPost_ret (v := V.val ⟨xk, xn, xt⟩) (by simp [results, Tryd.results42, go_sem, V.val, l1, b0, b1, b2]; try rfl) rfl ⟨rfl, (gro_three HG.out (by omega) _ _ _).alloc _⟩
  by_cases h3 : ok = 3
  · subst h3
    clear h1 h2
    replace HD : Hid (denV row par ⟨3, oi, ⟨vk, vn, vt⟩⟩ = ⟨vk, vn, vt⟩) := HD.out
    show Calls _ _ _ _ (fun e w' => e = .returned (denV row par ⟨3, oi, ⟨vk, vn, vt⟩⟩).val ∧ Gro w w')
    rw [HD.out]
    clear HAA HAB
    go_enter Tryd.func42, Tryd.ntmps42
    go_wp2
    exact bodyPost_ret (v := V.val ⟨vk, vn, vt⟩) (by simp [results, Tryd.results42, go_sem, V.val]; try rfl) rfl ⟨rfl, ((Gro.refl w).alloc _).alloc _⟩
  · have HE : Hid (denV row par ⟨ok, oi, ⟨vk, vn, vt⟩⟩ = nilV) := by show _ = _; rw [HD.out, if_neg h1, if_neg h2, if_neg h3]
    show Calls _ _ _ _ (fun e w' => e = .returned (denV row par ⟨ok, oi, ⟨vk, vn, vt⟩⟩).val ∧ Gro w w')
    rw [HE.out]
    clear HAA HAB
    go_enter Tryd.func42, Tryd.ntmps42
    go_wp2
    exact bodyPost_ret (v := nilV.val) (by simp [results, Tryd.results42, go_sem, V.val, nilV]; try rfl) rfl ⟨rfl, ((Gro.refl w).alloc _).alloc _⟩
end Go.Proofs.YtndnlmpmloiiiaaDoor
