/- The contracts of predicate.at, comparison, compare, denoted and the reference's Compares and denoted. -/
import Derived.Test.YtpmlhgakbpfgmaaDoorPa
set_option linter.unusedSimpArgs false
set_option linter.unusedVariables false
namespace Go.Proofs.YtpmlhgakbpfgmaaDoor
open Go.RowKit

theorem atV_neg {l : List V} {i : Int} (h : i < 0) : atV l i = nilV := by unfold atV; rw [if_neg (by omega)]
theorem atV_past {l : List V} {i : Int} (h : (l.length : Int) ≤ i) : atV l i = nilV := by
  unfold atV
  by_cases h0 : 0 ≤ i
  · rw [if_pos h0, List.getD_eq_getElem?_getD, List.getElem?_eq_none (by omega)]; rfl
  · rw [if_neg h0]
theorem atV_in {l : List V} {i : Nat} (h : i < l.length) : atV l i = l[i] := by unfold atV; rw [if_pos (by omega)]; simp [h]
def hasI (l : List V) (i : Int) : Bool := decide (0 ≤ i) && decide (i < l.length)
def AtOut (l : List V) (i : Int) (w : World) (e : Ending) (w' : World) : Prop := e = .returned (.tuple #[(atV l i).val, .bool (hasI l i)]) ∧ Gro w w'
end Go.Proofs.YtpmlhgakbpfgmaaDoor
/- The contracts of predicate.comparison, compare and denoted, and of the reference's Compares and denoted. -/
set_option linter.unusedSimpArgs false
set_option linter.unusedVariables false
namespace Go.Proofs.YtpmlhgakbpfgmaaDoor
open Go.RowKit

def BoolG (q : Bool) (w : World) (e : Ending) (w' : World) : Prop := e = .returned (.bool q) ∧ Gro w w'
theorem boolg {x y : Bool} {w w' : World} (h : y = x) (h3 : Gro w w') : BoolG x w (.returned (.bool y)) w' := by subst h; exact ⟨rfl, h3⟩
theorem isEqual_calls (d : Int) (w : World) : Calls Tryd.prog 90 #[.int .i64 d] w (BoolG (decide (d = 0)) w) := by
  go_enter Tryd.func90, Tryd.ntmps90
  go_wp2
  go_ret
  exact boolg (by first | rfl | (rw [Bool.eq_iff_iff]; simp) | simp) (Gro.refl _)
theorem isNotEqual_calls (d : Int) (w : World) : Calls Tryd.prog 91 #[.int .i64 d] w (BoolG (!decide (d = 0)) w) := by
  go_enter Tryd.func91, Tryd.ntmps91
  go_wp2
  go_ret
  exact boolg (by first | rfl | (rw [Bool.eq_iff_iff]; simp) | simp) (Gro.refl _)
theorem isLess_calls (d : Int) (w : World) : Calls Tryd.prog 92 #[.int .i64 d] w (BoolG (decide (d < 0)) w) := by
  go_enter Tryd.func92, Tryd.ntmps92
  go_wp2
  go_ret
  exact boolg (by first | rfl | (rw [Bool.eq_iff_iff]; simp) | simp) (Gro.refl _)
theorem isLessOrEqual_calls (d : Int) (w : World) : Calls Tryd.prog 93 #[.int .i64 d] w (BoolG (decide (d ≤ 0)) w) := by
  go_enter Tryd.func93, Tryd.ntmps93
  go_wp2
  go_ret
  exact boolg (by first | rfl | (rw [Bool.eq_iff_iff]; simp) | simp) (Gro.refl _)
theorem isGreater_calls (d : Int) (w : World) : Calls Tryd.prog 94 #[.int .i64 d] w (BoolG (decide (0 < d)) w) := by
  go_enter Tryd.func94, Tryd.ntmps94
  go_wp2
  go_ret
  exact boolg (by first | rfl | (rw [Bool.eq_iff_iff]; simp) | simp) (Gro.refl _)
theorem isGreaterOrEqual_calls (d : Int) (w : World) : Calls Tryd.prog 95 #[.int .i64 d] w (BoolG (decide (0 ≤ d)) w) := by
  go_enter Tryd.func95, Tryd.ntmps95
  go_wp2
  go_ret
  exact boolg (by first | rfl | (rw [Bool.eq_iff_iff]; simp) | simp) (Gro.refl _)
/-- What predicate.comparison answers. -/
def FnOut (cmp : Int) (w : World) (e : Ending) (w' : World) : Prop := e = .returned (if cmp = 1 then .func (.func 90) #[] #[] else if cmp = 2 then .func (.func 91) #[] #[] else if cmp = 3 then .func (.func 92) #[] #[] else if cmp = 4 then .func (.func 93) #[] #[] else if cmp = 5 then .func (.func 94) #[] #[] else if cmp = 6 then .func (.func 95) #[] #[] else .nilFunc) ∧ Gro w w'
theorem fn_none {cmp : Int} (h : cmp < 1 ∨ 6 < cmp) : (if cmp = 1 then Value.func (.func 90) #[] #[] else if cmp = 2 then .func (.func 91) #[] #[] else if cmp = 3 then .func (.func 92) #[] #[] else if cmp = 4 then .func (.func 93) #[] #[] else if cmp = 5 then .func (.func 94) #[] #[] else if cmp = 6 then .func (.func 95) #[] #[] else .nilFunc) = .nilFunc := by
  rw [if_neg (by omega), if_neg (by omega), if_neg (by omega), if_neg (by omega), if_neg (by omega), if_neg (by omega)]
set_option maxHeartbeats 1000000 in
theorem comparison_calls (cmp : Int) (w : World) : Calls Tryd.prog 88 #[.int .i64 cmp] w (FnOut cmp w) := by
  by_cases h0 : cmp < 1 ∨ 6 < cmp
  · have HE := Lib.hid (fn_none h0)
    have h : cmp < 0 ∨ cmp = 0 ∨ 7 ≤ cmp := by omega
    clear h0
    rcases h with h | rfl | h
    · have hd : decide (cmp < 0) = true := decide_eq_true h
      go_enter Tryd.func88, Tryd.ntmps88
      go_wp2
      go_ret
      exact ⟨(congrArg Ending.returned HE.out).symm, (Gro.refl _).alloc _⟩
    · go_enter Tryd.func88, Tryd.ntmps88
      go_wp2
      go_ret
      exact ⟨rfl, (Gro.refl _).alloc _⟩
    · have hd : decide (cmp < 0) = false := decide_eq_false (by omega)
      have hd2 : decide (7 ≤ cmp) = true := decide_eq_true h
      go_enter Tryd.func88, Tryd.ntmps88
      go_wp2
      go_ret
      exact ⟨(congrArg Ending.returned HE.out).symm, (Gro.refl _).alloc _⟩
  · obtain rfl | rfl | rfl | rfl | rfl | rfl : cmp = 1 ∨ cmp = 2 ∨ cmp = 3 ∨ cmp = 4 ∨ cmp = 5 ∨ cmp = 6 := by omega
    all_goals
      go_enter Tryd.func88, Tryd.ntmps88
      go_wp2
      go_ret
      exact ⟨rfl, (Gro.refl _).alloc _⟩
end Go.Proofs.YtpmlhgakbpfgmaaDoor
/- The contracts of predicate.compare and denoted, and of the reference's Compares and denoted. -/
set_option linter.unusedSimpArgs false
set_option linter.unusedVariables false
namespace Go.Proofs.YtpmlhgakbpfgmaaDoor
open Go.RowKit

theorem cpB_eq (cmp : Int) (a b : V) : cpB cmp a b = (decide (a.k = b.k) && realB a && realB b && ordB cmp (cmpV a b)) := by
  unfold cpB; cases realB a <;> cases realB b <;> cases decide (a.k = b.k) <;> rfl
theorem eqin_fn {P : Program} {t : TypeId} {ps rs : Array TypeId} {vd : Bool} (d : Nat) (h : P.underlying t = some (.func ps rs vd)) (f : Fn) (x y : Array Value) (w : World) : (Op.equalIn (d + 1) t (.func f x y) .nilFunc).run P w = .ok false w := by
  simp [Op.equalIn, run_underlying h]
theorem eqin_nil {P : Program} {t : TypeId} {ps rs : Array TypeId} {vd : Bool} (d : Nat) (h : P.underlying t = some (.func ps rs vd)) (w : World) : (Op.equalIn (d + 1) t .nilFunc .nilFunc).run P w = .ok true w := by
  simp [Op.equalIn, run_underlying h]
theorem fn_ne_nil (f : Fn) (x y : Array Value) (w : World) : (binOp .eql 123 (.func f x y) .nilFunc).run Tryd.prog w = .ok (.bool false) w := by
  simp only [binOp]
  simp [Op.equal, Op.maxDepth, eqin_fn 9999 Tryd.underlying123 f x y w]
theorem fn_eq_nil (w : World) : (binOp .eql 123 .nilFunc .nilFunc).run Tryd.prog w = .ok (.bool true) w := by
  simp only [binOp]
  simp [Op.equal, Op.maxDepth, eqin_nil 9999 Tryd.underlying123 w]
/-- The cells of two values' boxes, side by side. -/
structure Two3 (w : World) (g : Nat) (a b : V) : Prop where
  l0 : g < w.heap.size
  l1 : g + 1 < w.heap.size
  a0 : w.cell? ⟨g, 0, none⟩ = some (.int .i64 a.k)
  a1 : w.cell? ⟨g, 1, none⟩ = some (.int .i64 a.n)
  a2 : w.cell? ⟨g, 2, none⟩ = some (.string a.t)
  b0 : w.cell? ⟨g + 1, 0, none⟩ = some (.int .i64 b.k)
  b1 : w.cell? ⟨g + 1, 1, none⟩ = some (.int .i64 b.n)
  b2 : w.cell? ⟨g + 1, 2, none⟩ = some (.string b.t)
theorem Two3.new (w : World) (a b : V) (T : TypeId) : Two3 ((w.alloc (.cells #[.int .i64 a.k, .int .i64 a.n, .string a.t] T)).alloc (.cells #[.int .i64 b.k, .int .i64 b.n, .string b.t] T)) w.heap.size a b :=
  ⟨by simp; omega, by simp, by go_simp, by go_simp, by go_simp, by go_simp, by go_simp, by go_simp⟩
theorem Two3.later {w w' : World} {g : Nat} {a b : V} (h : Two3 w g a b) (hw : Below w.heap.size w w') : Two3 w' g a b :=
  ⟨Nat.lt_of_lt_of_le h.l0 hw.size, Nat.lt_of_lt_of_le h.l1 hw.size, (hw.cell (p := ⟨g, 0, none⟩) h.l0).trans h.a0, (hw.cell (p := ⟨g, 1, none⟩) h.l0).trans h.a1, (hw.cell (p := ⟨g, 2, none⟩) h.l0).trans h.a2,
    (hw.cell (p := ⟨g + 1, 0, none⟩) h.l1).trans h.b0, (hw.cell (p := ⟨g + 1, 1, none⟩) h.l1).trans h.b1, (hw.cell (p := ⟨g + 1, 2, none⟩) h.l1).trans h.b2⟩
end Go.Proofs.YtpmlhgakbpfgmaaDoor
/- The contracts of predicate.denoted and of the reference's Compares and denoted. -/
set_option linter.unusedSimpArgs false
set_option linter.unusedVariables false
namespace Go.Proofs.YtpmlhgakbpfgmaaDoor
open Go.RowKit

/-- The cells of an operand's box and of a value's behind it. -/
structure OdV (w : World) (g : Nat) (o : Od) : Prop where
  l0 : g < w.heap.size
  l1 : g + 1 < w.heap.size
  a0 : w.cell? ⟨g, 0, none⟩ = some (.int .i64 o.k)
  a1 : w.cell? ⟨g, 1, none⟩ = some (.int .i64 o.i)
  a2 : w.cell? ⟨g, 2, none⟩ = some (.int .i64 o.v.k)
  a3 : w.cell? ⟨g, 3, none⟩ = some (.int .i64 o.v.n)
  a4 : w.cell? ⟨g, 4, none⟩ = some (.string o.v.t)
  b0 : w.cell? ⟨g + 1, 0, none⟩ = some (.int .i64 0)
  b1 : w.cell? ⟨g + 1, 1, none⟩ = some (.int .i64 0)
  b2 : w.cell? ⟨g + 1, 2, none⟩ = some (.string ⟨#[]⟩)
  f0 : w.frozen? ⟨g + 1, 0, none⟩ = false
  f1 : w.frozen? ⟨g + 1, 1, none⟩ = false
  f2 : w.frozen? ⟨g + 1, 2, none⟩ = false
theorem OdV.new (w : World) (o : Od) (T T' : TypeId) : OdV ((w.alloc (.cells #[.int .i64 o.k, .int .i64 o.i, .int .i64 o.v.k, .int .i64 o.v.n, .string o.v.t] T)).alloc (.cells #[.int .i64 0, .int .i64 0, .string ⟨#[]⟩] T')) w.heap.size o :=
  ⟨by simp; omega, by simp, by go_simp, by go_simp, by go_simp, by go_simp, by go_simp, by go_simp, by go_simp, by go_simp, by go_simp, by go_simp, by go_simp⟩
theorem OdV.later {w w' : World} {g : Nat} {o : Od} (h : OdV w g o) (hw : Below w.heap.size w w') : OdV w' g o :=
  ⟨Nat.lt_of_lt_of_le h.l0 hw.size, Nat.lt_of_lt_of_le h.l1 hw.size, (hw.cell (p := ⟨g, 0, none⟩) h.l0).trans h.a0, (hw.cell (p := ⟨g, 1, none⟩) h.l0).trans h.a1, (hw.cell (p := ⟨g, 2, none⟩) h.l0).trans h.a2, (hw.cell (p := ⟨g, 3, none⟩) h.l0).trans h.a3, (hw.cell (p := ⟨g, 4, none⟩) h.l0).trans h.a4,
    (hw.cell (p := ⟨g + 1, 0, none⟩) h.l1).trans h.b0, (hw.cell (p := ⟨g + 1, 1, none⟩) h.l1).trans h.b1, (hw.cell (p := ⟨g + 1, 2, none⟩) h.l1).trans h.b2,
    by rw [World.frozen?_of_block (w := w) (hw.block _ h.l1)]; exact h.f0, by rw [World.frozen?_of_block (w := w) (hw.block _ h.l1)]; exact h.f1, by rw [World.frozen?_of_block (w := w) (hw.block _ h.l1)]; exact h.f2⟩
theorem gro_three {a w : World} (h : Gro a w) {g : Nat} (hg : a.heap.size ≤ g) (x y z : Value) : Gro a (((w.setCell ⟨g, 0, none⟩ x).setCell ⟨g, 1, none⟩ y).setCell ⟨g, 2, none⟩ z) := ((h.setCell hg _).setCell hg _).setCell hg _
def ValG (v : V) (w : World) (e : Ending) (w' : World) : Prop := e = .returned v.val ∧ Gro w w'
end Go.Proofs.YtpmlhgakbpfgmaaDoor
/- The contract of predicate.Holds. -/
set_option linter.unusedSimpArgs false
set_option linter.unusedVariables false
namespace Go.Proofs.YtpmlhgakbpfgmaaDoor
open Go.RowKit

/-- The cells of a predicate's box. -/
structure PBox (w : World) (g : Nat) (p : Pr) (s : Value) : Prop where
  l : g < w.heap.size
  c0 : w.cell? ⟨g, 0, none⟩ = some (.int .i64 p.op)
  c1 : w.cell? ⟨g, 1, none⟩ = some (.int .i64 p.cmp)
  c2 : w.cell? ⟨g, 2, none⟩ = some (.int .i64 p.l.k)
  c3 : w.cell? ⟨g, 3, none⟩ = some (.int .i64 p.l.i)
  c4 : w.cell? ⟨g, 4, none⟩ = some (.int .i64 p.l.v.k)
  c5 : w.cell? ⟨g, 5, none⟩ = some (.int .i64 p.l.v.n)
  c6 : w.cell? ⟨g, 6, none⟩ = some (.string p.l.v.t)
  c7 : w.cell? ⟨g, 7, none⟩ = some (.int .i64 p.r.k)
  c8 : w.cell? ⟨g, 8, none⟩ = some (.int .i64 p.r.i)
  c9 : w.cell? ⟨g, 9, none⟩ = some (.int .i64 p.r.v.k)
  c10 : w.cell? ⟨g, 10, none⟩ = some (.int .i64 p.r.v.n)
  c11 : w.cell? ⟨g, 11, none⟩ = some (.string p.r.v.t)
  c12 : w.cell? ⟨g, 12, none⟩ = some s
/-- The block of a predicate's box. -/
abbrev pBlock (p : Pr) (s : Value) (T : TypeId) : Obj := pObj p.op p.cmp p.l.k p.l.i p.l.v.k p.l.v.n p.l.v.t p.r.k p.r.i p.r.v.k p.r.v.n p.r.v.t s T
theorem PBox.new (w : World) (p : Pr) (s : Value) (T : TypeId) : PBox (w.alloc (pBlock p s T)) w.heap.size p s :=
  ⟨by simp, by go_simp, by go_simp, by go_simp, by go_simp, by go_simp, by go_simp, by go_simp, by go_simp, by go_simp, by go_simp, by go_simp, by go_simp, by go_simp⟩
theorem PBox.later {w w' : World} {g : Nat} {p : Pr} {s : Value} (h : PBox w g p s) (hw : Below w.heap.size w w') : PBox w' g p s :=
  have hc : ∀ o, w'.cell? ⟨g, o, none⟩ = w.cell? ⟨g, o, none⟩ := fun o => hw.cell (p := ⟨g, o, none⟩) h.l
  ⟨Nat.lt_of_lt_of_le h.l hw.size, (hc _).trans h.c0, (hc _).trans h.c1, (hc _).trans h.c2, (hc _).trans h.c3, (hc _).trans h.c4, (hc _).trans h.c5, (hc _).trans h.c6, (hc _).trans h.c7, (hc _).trans h.c8, (hc _).trans h.c9, (hc _).trans h.c10, (hc _).trans h.c11, (hc _).trans h.c12⟩
theorem RowAt.slice {w : World} {v : Value} {r : List V} (h : RowAt w v r) : ∃ a n cap, v = .slice a n cap := let ⟨a, cap, h1, _⟩ := h; ⟨a, _, cap, h1⟩
section
variable {S : Nat → Prop} {va vb : Value} {row par : List V} {k : Nat}
end
end Go.Proofs.YtpmlhgakbpfgmaaDoor
/- Operands compared; the contracts of predicate.at, kindAt, kindOf and of the reference's kind and plain. -/
set_option linter.unusedSimpArgs false
set_option linter.unusedVariables false
namespace Go.Proofs.YtpmlhgakbpfgmaaDoor
open Go.RowKit

/-- Whether two operands are equal. -/
noncomputable def eqO (o o' : Od) : Bool := decide (o.k = o'.k) && decide (o.i = o'.i) && decide (o.v = o'.v)
theorem eqin_V (d : Nat) (k n k' n' : Int) (t t' : ByteArray) (w : World) : (Op.equalIn (d + 1 + 1) 56 (.agg #[.int .i64 k, .int .i64 n, .string t]) (.agg #[.int .i64 k', .int .i64 n', .string t'])).run Tryd.prog w = .ok (decide ((⟨k, n, t⟩ : V) = ⟨k', n', t'⟩)) w := by
  have hS : Tryd.prog.underlying 56 = some (.struct (Tryd.prog.fieldsOf 56)) := by kernel_rfl
  have hp : Tryd.prog.stoodInHeld 56 = false := by kernel_rfl
  have u3 := Tryd.underlying3
  have a3 := Tryd.isAgg3
  have z3 := Tryd.sizeOf3
  have u2 := Tryd.underlying2
  have a2 := Tryd.isAgg2
  have z2 := Tryd.sizeOf2
  have u9 := Tryd.underlying9
  have a9 := Tryd.isAgg9
  have z9 := Tryd.sizeOf9
  rw [run_equalIn_agg w (d + 1) 56 _ _ hS hp]
  simp only [Program.fieldsOf, Tryd.underlying56]
  go_simp
  by_cases h1 : k = k' <;> by_cases h2 : n = n' <;> by_cases h3 : t = t' <;> simp [h1, h2, h3]
  exact fun h => h3 (toList_inj h)
theorem eqin_O (d : Nat) (k i vk vn k' i' vk' vn' : Int) (t t' : ByteArray) (w : World) :
    (Op.equalIn (d + 1 + 1 + 1) 58 (.agg #[.int .i64 k, .int .i64 i, .int .i64 vk, .int .i64 vn, .string t]) (.agg #[.int .i64 k', .int .i64 i', .int .i64 vk', .int .i64 vn', .string t'])).run Tryd.prog w = .ok (eqO ⟨k, i, ⟨vk, vn, t⟩⟩ ⟨k', i', ⟨vk', vn', t'⟩⟩) w := by
  have hS : Tryd.prog.underlying 58 = some (.struct (Tryd.prog.fieldsOf 58)) := by kernel_rfl
  have hp : Tryd.prog.stoodInHeld 58 = false := by kernel_rfl
  have u3 := Tryd.underlying3
  have a3 := Tryd.isAgg3
  have z3 := Tryd.sizeOf3
  have a24 := Tryd.isAgg56
  have z24 := Tryd.sizeOf56
  have hv := eqin_V d vk vn vk' vn' t t'
  rw [run_equalIn_agg w (d + 1 + 1) 58 _ _ hS hp]
  simp only [Program.fieldsOf, Tryd.underlying58]
  clear hS hp
  have he : eqO ⟨k, i, ⟨vk, vn, t⟩⟩ ⟨k', i', ⟨vk', vn', t'⟩⟩ = (decide (k = k') && decide (i = i') && decide ((⟨vk, vn, t⟩ : V) = ⟨vk', vn', t'⟩)) := rfl
  rw [he]
  generalize decide ((⟨vk, vn, t⟩ : V) = ⟨vk', vn', t'⟩) = q at hv ⊢
  clear he
  go_simp
  cases q <;> by_cases h1 : k = k' <;> by_cases h2 : i = i' <;> simp [h1, h2]
theorem eql_O (k i vk vn k' i' vk' vn' : Int) (t t' : ByteArray) (w : World) :
    (binOp .eql 58 (.agg #[.int .i64 k, .int .i64 i, .int .i64 vk, .int .i64 vn, .string t]) (.agg #[.int .i64 k', .int .i64 i', .int .i64 vk', .int .i64 vn', .string t'])).run Tryd.prog w = .ok (.bool (eqO ⟨k, i, ⟨vk, vn, t⟩⟩ ⟨k', i', ⟨vk', vn', t'⟩⟩)) w := by
  rw [run_eql_struct, show (10000 : Nat) = 9997 + 1 + 1 + 1 from rfl, eqin_O]; rfl
theorem neq_O (k i vk vn k' i' vk' vn' : Int) (t t' : ByteArray) (w : World) :
    (binOp .neq 58 (.agg #[.int .i64 k, .int .i64 i, .int .i64 vk, .int .i64 vn, .string t]) (.agg #[.int .i64 k', .int .i64 i', .int .i64 vk', .int .i64 vn', .string t'])).run Tryd.prog w = .ok (.bool (!eqO ⟨k, i, ⟨vk, vn, t⟩⟩ ⟨k', i', ⟨vk', vn', t'⟩⟩)) w := by
  rw [run_neq_struct, show (10000 : Nat) = 9997 + 1 + 1 + 1 from rfl, eqin_O]; rfl
theorem neqv_V (k n k' n' : Int) (t t' : ByteArray) (w : World) :
    (binOp .neq 56 (.agg #[.int .i64 k, .int .i64 n, .string t]) (.agg #[.int .i64 k', .int .i64 n', .string t'])).run Tryd.prog w = .ok (.bool (!decide ((⟨k, n, t⟩ : V) = ⟨k', n', t'⟩))) w := by
  rw [run_neq_struct, show (10000 : Nat) = 9998 + 1 + 1 from rfl, eqin_V]; rfl
end Go.Proofs.YtpmlhgakbpfgmaaDoor
