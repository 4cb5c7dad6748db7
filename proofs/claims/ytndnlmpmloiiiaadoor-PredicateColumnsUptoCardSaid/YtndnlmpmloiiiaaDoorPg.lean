/- The contract of predicate.Holds. -/
import Derived.Test.YtndnlmpmloiiiaaDoorPe
set_option linter.unusedSimpArgs false
set_option linter.unusedVariables false
namespace Go.Proofs.YtndnlmpmloiiiaaDoor
open Go.RowKit

/-- The cells of a predicate's box. -/
structure PBox (w : World) (g : Nat) (p : Pr) (s : Value) : Prop where
  l : g < w.heap.size
  c0 : w.cell? ⟨g, 0, none⟩ = some (.int .i64 p.op)
  c1 : w.cell? ⟨g, 1, none⟩ = some (.int .i64 p.cmp)
  c2 : w.cell? ⟨g, 2, none⟩ = some (.int .i64 p.l.k)
  c3 : w.cell? ⟨g, 3, none⟩ = some (.int .i64 p.l.i)
  c4 : w.cell? ⟨g, 4, none⟩ = some (.int .i64 p.l.v.k)
  c5 : w.cell? ⟨g, 5, none⟩ = some (.int .i64 p.l.v.n)
  c6 : w.cell? ⟨g, 6, none⟩ = some (.string p.l.v.t)
  c7 : w.cell? ⟨g, 7, none⟩ = some (.int .i64 p.r.k)
  c8 : w.cell? ⟨g, 8, none⟩ = some (.int .i64 p.r.i)
  c9 : w.cell? ⟨g, 9, none⟩ = some (.int .i64 p.r.v.k)
  c10 : w.cell? ⟨g, 10, none⟩ = some (.int .i64 p.r.v.n)
  c11 : w.cell? ⟨g, 11, none⟩ = some (.string p.r.v.t)
  c12 : w.cell? ⟨g, 12, none⟩ = some s
/-- The block of a predicate's box. -/
abbrev pBlock (p : Pr) (s : Value) (T : TypeId) : Obj := pObj p.op p.cmp p.l.k p.l.i p.l.v.k p.l.v.n p.l.v.t p.r.k p.r.i p.r.v.k p.r.v.n p.r.v.t s T
theorem PBox.new (w : World) (p : Pr) (s : Value) (T : TypeId) : PBox (w.alloc (pBlock p s T)) w.heap.size p s :=
  ⟨by simp, by go_simp, by go_simp, by go_simp, by go_simp, by go_simp, by go_simp, by go_simp, by go_simp, by go_simp, by go_simp, by go_simp, by go_simp, by go_simp⟩
theorem PBox.later {w w' : World} {g : Nat} {p : Pr} {s : Value} (h : PBox w g p s) (hw : Below w.heap.size w w') : PBox w' g p s :=
  have hc : ∀ o, w'.cell? ⟨g, o, none⟩ = w.cell? ⟨g, o, none⟩ := fun o => hw.cell (p := ⟨g, o, none⟩) h.l
  ⟨Nat.lt_of_lt_of_le h.l hw.size, (hc _).trans h.c0, (hc _).trans h.c1, (hc _).trans h.c2, (hc _).trans h.c3, (hc _).trans h.c4, (hc _).trans h.c5, (hc _).trans h.c6, (hc _).trans h.c7, (hc _).trans h.c8, (hc _).trans h.c9, (hc _).trans h.c10, (hc _).trans h.c11, (hc _).trans h.c12⟩
/-- The blocks that the closures of Holds have captured. -/
structure Caps (w : World) (gr gq gh : Nat) (va vb : Value) : Prop where
  l0 : gr < w.heap.size
  l1 : gq < w.heap.size
  l2 : gh < w.heap.size
  c0 : w.cell? ⟨gr, 0, none⟩ = some va
  c1 : w.cell? ⟨gq, 0, none⟩ = some vb
  c2 : w.cell? ⟨gh, 0, none⟩ = some (.func (.func 39) #[] #[.pointer (some ⟨gr, 0, none⟩), .pointer (some ⟨gq, 0, none⟩)])
theorem Caps.later {w w' : World} {gr gq gh : Nat} {va vb : Value} (h : Caps w gr gq gh va vb) (hw : Below w.heap.size w w') : Caps w' gr gq gh va vb :=
  ⟨Nat.lt_of_lt_of_le h.l0 hw.size, Nat.lt_of_lt_of_le h.l1 hw.size, Nat.lt_of_lt_of_le h.l2 hw.size, (hw.cell (p := ⟨gr, 0, none⟩) h.l0).trans h.c0, (hw.cell (p := ⟨gq, 0, none⟩) h.l1).trans h.c1, (hw.cell (p := ⟨gh, 0, none⟩) h.l2).trans h.c2⟩
theorem RowAt.slice {w : World} {v : Value} {r : List V} (h : RowAt w v r) : ∃ a n cap, v = .slice a n cap := let ⟨a, cap, h1, _⟩ := h; ⟨a, _, cap, h1⟩
/-- What Holds answers at one predicate, to the depth k. -/
def HoldsAt (S : Nat → Prop) (va vb : Value) (row par : List V) (k : Nat) (p : Pr) : Prop :=
  ∀ (s : Value) (w : World), RowAt w va row → RowAt w vb par → PrIn S w k s p.args → Calls Tryd.prog 17 #[p.val s, va, vb] w (BoolG (holdsP row par p) w)
section
variable {S : Nat → Prop} {va vb : Value} {row par : List V} {k : Nat}
set_option maxRecDepth 100000 in
theorem holds1_calls (p : Pr) (ih : HoldsAt S va vb row par k p) (s : Value) (gr gq gh : Nat) (w : World) (hc : Caps w gr gq gh va vb) (ha : RowAt w va row) (hb : RowAt w vb par) (hp : PrIn S w k s p.args) :
    Calls Tryd.prog 39 #[p.val s, .pointer (some ⟨gr, 0, none⟩), .pointer (some ⟨gq, 0, none⟩)] w (BoolG (holdsP row par p) w) := by
  obtain ⟨a1, n1, k1, rfl⟩ := RowAt.slice ha
  obtain ⟨a2, n2, k2, rfl⟩ := RowAt.slice hb
  obtain ⟨W, hW⟩ : ∃ W, W = w.alloc (pBlock p s 29) := ⟨_, rfl⟩
  have hg : Gro w W := by rw [hW]; exact (Gro.refl w).alloc _
  have hB : PBox W w.heap.size p s := by rw [hW]; exact PBox.new w p s _
  have HI := Lib.hid (ih s W (ha.later hg.below) (hb.later hg.below) (hp.later hg.below))
  obtain ⟨q, hq⟩ : ∃ q, holdsP row par p = q := ⟨_, rfl⟩
  rw [hq] at HI ⊢
  obtain ⟨h0, h1, -, c0, c1, -⟩ := hc.later hg.below
  obtain ⟨l, b0, b1, b2, b3, b4, b5, b6, b7, b8, b9, b10, b11, b12⟩ := hB
  have HG := Lib.hid hg
  subst hW
  clear hg hq ih ha hb hp hc
  go_enter Tryd.func39, Tryd.ntmps39
  go_wp2_with fail
  refine HI.out.mono ?_
  rintro e w1 ⟨rfl, hg1⟩
  have HG1 := Lib.hid (HG.out.trans hg1)
  clear hg1
  go_wp2
  go_ret
  exact boolg rfl HG1.out
set_option maxRecDepth 100000 in
theorem holds2_calls (p : Pr) (ih : HoldsAt S va vb row par k p) (s : Value) (gr gq gh : Nat) (w : World) (hc : Caps w gr gq gh va vb) (ha : RowAt w va row) (hb : RowAt w vb par) (hp : PrIn S w k s p.args) :
    Calls Tryd.prog 40 #[p.val s, .pointer (some ⟨gh, 0, none⟩)] w (BoolG (!holdsP row par p) w) := by
  obtain ⟨W, hW⟩ : ∃ W, W = w.alloc (pBlock p s 29) := ⟨_, rfl⟩
  have hg : Gro w W := by rw [hW]; exact (Gro.refl w).alloc _
  have hB : PBox W w.heap.size p s := by rw [hW]; exact PBox.new w p s _
  have HI := Lib.hid (holds1_calls p ih s gr gq gh W (hc.later hg.below) (ha.later hg.below) (hb.later hg.below) (hp.later hg.below))
  obtain ⟨q, hq⟩ : ∃ q, holdsP row par p = q := ⟨_, rfl⟩
  rw [hq] at HI ⊢
  obtain ⟨-, -, h0, -, -, c0⟩ := hc.later hg.below
  obtain ⟨l, b0, b1, b2, b3, b4, b5, b6, b7, b8, b9, b10, b11, b12⟩ := hB
  have HG := Lib.hid hg
  subst hW
  clear hg hq ih ha hb hp hc
  go_enter Tryd.func40, Tryd.ntmps40
  go_wp2_with fail
  refine HI.out.mono ?_
  rintro e w1 ⟨rfl, hg1⟩
  have HG1 := Lib.hid (HG.out.trans hg1)
  clear hg1
  go_wp2
  go_ret
  exact boolg rfl HG1.out
end
end Go.Proofs.YtndnlmpmloiiiaaDoor
