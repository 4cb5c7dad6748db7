/- The plain mathematics of package value: the orders of numbers, texts, values and rows, and that they are total; the least value above a value. No program is named here. -/
import Derived.Test.YtpmlhgakbpfgmaaDoorRows
import Derived.Sort.Grow
import Derived.Below
import Derived.Deep.Draws
import Derived.Laws.Strings
set_option linter.unusedSimpArgs false
set_option linter.unusedVariables false
namespace Go.Proofs.YtpmlhgakbpfgmaaDoor
open Go.RowKit

/-! ## worlds that only grow -/
/-- w' is w with new blocks behind it, some draws later. -/
structure Gro (w w' : World) : Prop where
  below : Below w.heap.size w w'
  drawn : w.drawn ≤ w'.drawn
theorem Gro.refl (w : World) : Gro w w := ⟨Below.refl _ _, Nat.le_refl _⟩
theorem Gro.trans {a b c : World} (h : Gro a b) (k : Gro b c) : Gro a c := ⟨h.below.trans (k.below.mono h.below.size), Nat.le_trans h.drawn k.drawn⟩
theorem Gro.drew {a w : World} (h : Gro a w) : Gro a w.drew := ⟨h.below.drew, Nat.le_trans h.drawn (Nat.le_succ _)⟩
theorem Gro.drewN {a w : World} (h : Gro a w) (n : Nat) : Gro a (w.drewN n) := ⟨⟨h.below.os, h.below.tape, h.below.output, h.below.size, h.below.block⟩, Nat.le_trans h.drawn (Nat.le_add_right _ _)⟩
theorem Gro.alloc {a w : World} (h : Gro a w) (o : Obj) : Gro a (w.alloc o) := ⟨h.below.alloc h.below.size o, h.drawn⟩
theorem Gro.setCell {a w : World} (h : Gro a w) {p : Addr} (hp : a.heap.size ≤ p.block) (u : Value) : Gro a (w.setCell p u) := ⟨h.below.setCell hp u, h.drawn⟩
theorem Gro.size {a w : World} (h : Gro a w) : a.heap.size ≤ w.heap.size := h.below.size
theorem Gro.grow {w w' : World} (h : Gro w w') : ∃ q os, w' = Go.Sort.grow (w.drewN q) os := by
  obtain ⟨⟨h1, h2, h3, h4, h5⟩, h6⟩ := h
  refine ⟨w'.drawn - w.drawn, w'.heap.extract w.heap.size w'.heap.size, ?_⟩
  unfold World.drewN
  cases w'
  cases w
  simp only at h1 h2 h3 h4 h5 h6
  subst h1 h2 h3
  simp only [Go.Sort.grow, World.mk.injEq, true_and, and_true]
  refine ⟨?_, by omega⟩
  apply Array.ext_getElem?
  intro k
  rw [Array.getElem?_append]
  split
  · exact h5 k ‹_›
  · rw [Array.getElem?_extract]
    rename_i hk
    split
    · congr 1; omega
    · rename_i hk2; rw [Array.getElem?_eq_none]; omega

/-! ## three-way orders -/
structure Good {α : Type} (c : α → α → Int) : Prop where
  range : ∀ a b, c a b = -1 ∨ c a b = 0 ∨ c a b = 1
  zero : ∀ a b, c a b = 0 ↔ a = b
  neg : ∀ a b, c a b = - c b a
  trans : ∀ a b d, c a b ≤ 0 → c b d ≤ 0 → c a d ≤ 0

theorem Good.self {α : Type} {c : α → α → Int} (h : Good c) (a : α) : c a a = 0 := (h.zero a a).2 rfl
/-- strict on the left. -/
theorem Good.lt_le {α : Type} {c : α → α → Int} (h : Good c) {a b d : α} (h1 : c a b < 0) (h2 : c b d ≤ 0) : c a d < 0 := by
  have h3 := h.trans a b d (by omega) h2
  have h4 : c a d ≠ 0 := fun e => by
    have := (h.zero a d).1 e
    subst this
    have := h.neg a b
    omega
  omega
theorem Good.le_lt {α : Type} {c : α → α → Int} (h : Good c) {a b d : α} (h1 : c a b ≤ 0) (h2 : c b d < 0) : c a d < 0 := by
  have h3 := h.trans a b d h1 (by omega)
  have h4 : c a d ≠ 0 := fun e => by
    have := (h.zero a d).1 e
    subst this
    have := h.neg a b
    omega
  omega

def cmpI (a b : Int) : Int := if a < b then -1 else if b < a then 1 else 0
theorem goodI : Good cmpI where
  range a b := by unfold cmpI; split <;> (try split) <;> simp
  zero a b := by unfold cmpI; split <;> (try split) <;> simp <;> omega
  neg a b := by unfold cmpI; split <;> (try split) <;> (try split) <;> (try split) <;> omega
  trans a b d := by unfold cmpI; repeat' split
                    all_goals omega

/-- First by c, then by d. -/
def lex {α : Type} (c d : α → α → Int) (a b : α) : Int := if c a b = 0 then d a b else c a b

/-- Lists by their first cells that differ; a list before its continuations. -/
def cmpL {α : Type} (c : α → α → Int) : List α → List α → Int
  | [], [] => 0
  | [], _ :: _ => -1
  | _ :: _, [] => 1
  | a :: x, b :: y => if c a b = 0 then cmpL c x y else c a b

theorem goodL {α : Type} {c : α → α → Int} (h : Good c) : Good (cmpL c) where
  range a b := by
    induction a generalizing b with
    | nil => cases b <;> simp [cmpL]
    | cons x xs ih =>
      cases b with
      | nil => simp [cmpL]
      | cons y ys => simp only [cmpL]; split
                     · exact ih ys
                     · exact h.range x y
  zero a b := by
    induction a generalizing b with
    | nil => cases b <;> simp [cmpL]
    | cons x xs ih =>
      cases b with
      | nil => simp [cmpL]
      | cons y ys =>
        simp only [cmpL]
        have hz := h.zero x y
        split
        · rw [ih ys]; simp; intro _; exact hz.1 ‹_›
        · simp; constructor
          · intro e; contradiction
          · intro e1; exact absurd (hz.2 e1.1) ‹_›
  neg a b := by
    induction a generalizing b with
    | nil => cases b <;> simp [cmpL]
    | cons x xs ih =>
      cases b with
      | nil => simp [cmpL]
      | cons y ys =>
        simp only [cmpL]
        have hn := h.neg x y
        by_cases e : c x y = 0
        · rw [if_pos e, if_pos (by omega)]; exact ih ys
        · rw [if_neg e, if_neg (by omega)]; exact hn
  trans a b d := by
    induction a generalizing b d with
    | nil => cases d <;> simp [cmpL]
    | cons x xs ih =>
      cases b with
      | nil => simp [cmpL]
      | cons y ys =>
        cases d with
        | nil => simp [cmpL]
        | cons z zs =>
          simp only [cmpL]
          by_cases e1 : c x y = 0
          · have := (h.zero x y).1 e1
            subst this
            rw [if_pos e1]
            by_cases e2 : c x z = 0
            · rw [if_pos e2, if_pos e2]; exact ih ys zs
            · rw [if_neg e2, if_neg e2]; intro _ k; exact k
          · rw [if_neg e1]
            intro k1 k2
            by_cases e2 : c y z = 0
            · have := (h.zero y z).1 e2
              subst this
              rw [if_neg e1]; exact k1
            · rw [if_neg e2] at k2
              have := h.lt_le (show c x y < 0 by omega) k2
              rw [if_neg (by omega)]
              omega

/-! ## texts -/
def cmpB (a b : UInt8) : Int := cmpI a.toNat b.toNat
theorem goodB : Good cmpB where
  range a b := goodI.range _ _
  zero a b := by unfold cmpB; rw [goodI.zero]; constructor
                 · intro h; exact UInt8.toNat_inj.1 (by omega)
                 · rintro rfl; rfl
  neg a b := goodI.neg _ _
  trans a b d := goodI.trans _ _ _
def cmpS (a b : ByteArray) : Int := cmpL cmpB a.toList b.toList
theorem toList_inj {a b : ByteArray} (h : a.toList = b.toList) : a = b := by
  rw [ByteArray.toList_eq, ByteArray.toList_eq] at h
  obtain ⟨⟨x⟩⟩ := a
  obtain ⟨⟨y⟩⟩ := b
  simp at h
  rw [h]
theorem goodS : Good cmpS where
  range a b := (goodL goodB).range _ _
  zero a b := by unfold cmpS; rw [(goodL goodB).zero]; exact ⟨toList_inj, fun h => by rw [h]⟩
  neg a b := (goodL goodB).neg _ _
  trans a b d := (goodL goodB).trans _ _ _
theorem bytesLess_iff (a b : List UInt8) : Op.bytesLess a b = decide (cmpL cmpB a b < 0) := by
  induction a generalizing b with
  | nil => cases b <;> simp [Op.bytesLess, cmpL]
  | cons x xs ih =>
    cases b with
    | nil => simp [Op.bytesLess, cmpL]
    | cons y ys =>
      simp only [Op.bytesLess, cmpL, ih]
      have hx : x < y ↔ cmpB x y < 0 := by
        unfold cmpB cmpI; rw [UInt8.lt_iff_toNat_lt]; split <;> (try split) <;> omega
      by_cases e : cmpB x y = 0
      · have := (goodB.zero x y).1 e
        subst this
        simp [goodB.self]
      · have hne : x ≠ y := fun h => e ((goodB.zero x y).2 h)
        by_cases hlt : x < y
        · simp [hlt, hx.1 hlt, e]
        · have : ¬ cmpB x y < 0 := fun h => hlt (hx.2 h)
          simp [hlt, hne, this, e]
theorem less_S (a b : ByteArray) : Op.bytesLess a.toList b.toList = decide (cmpS a b < 0) := bytesLess_iff _ _
theorem eq_S (a b : ByteArray) : (a.toList == b.toList) = decide (cmpS a b = 0) := by
  rw [Bool.eq_iff_iff]; simp [goodS.zero]
  exact ⟨toList_inj, fun h => by rw [h]⟩

/-! ## values -/
structure V where
  k : Int
  n : Int
  t : ByteArray
/-- The value as Go holds it. -/
abbrev V.val (v : V) : Value := .agg #[.int .i64 v.k, .int .i64 v.n, .string v.t]
def cmpV (a b : V) : Int := if cmpI a.k b.k = 0 then (if cmpI a.n b.n = 0 then cmpS a.t b.t else cmpI a.n b.n) else cmpI a.k b.k
theorem V.ext' {a b : V} (h1 : a.k = b.k) (h2 : a.n = b.n) (h3 : a.t = b.t) : a = b := by cases a; cases b; simp_all
theorem goodV : Good cmpV where
  range a b := by
    unfold cmpV; split
    · split
      · exact goodS.range _ _
      · exact goodI.range _ _
    · exact goodI.range _ _
  zero a b := by
    unfold cmpV; split
    · split
      · rw [goodS.zero]
        have h1 := (goodI.zero _ _).1 ‹cmpI a.k b.k = 0›
        have h2 := (goodI.zero _ _).1 ‹cmpI a.n b.n = 0›
        exact ⟨fun h => V.ext' h1 h2 h, fun h => by rw [h]⟩
      · constructor
        · intro h; contradiction
        · rintro rfl; exact goodI.self _
    · constructor
      · intro h; contradiction
      · rintro rfl; exact goodI.self _
  neg a b := by
    have h1 := goodI.neg a.k b.k
    have h2 := goodI.neg a.n b.n
    have h3 := goodS.neg a.t b.t
    unfold cmpV
    by_cases e1 : cmpI a.k b.k = 0
    · rw [if_pos e1, if_pos (show cmpI b.k a.k = 0 by omega)]
      by_cases e2 : cmpI a.n b.n = 0
      · rw [if_pos e2, if_pos (show cmpI b.n a.n = 0 by omega)]; exact h3
      · rw [if_neg e2, if_neg (show ¬ cmpI b.n a.n = 0 by omega)]; exact h2
    · rw [if_neg e1, if_neg (show ¬ cmpI b.k a.k = 0 by omega)]; exact h1
  trans a b d := by
    have hk := goodI.trans a.k b.k d.k
    have hn := goodI.trans a.n b.n d.n
    have hs := goodS.trans a.t b.t d.t
    intro p q
    unfold cmpV at p q ⊢
    by_cases e1 : cmpI a.k b.k = 0
    · rw [if_pos e1] at p
      have ek := (goodI.zero _ _).1 e1
      by_cases e2 : cmpI b.k d.k = 0
      · rw [if_pos e2] at q
        have ek2 := (goodI.zero _ _).1 e2
        rw [if_pos (by rw [ek, ek2]; exact goodI.self _)]
        by_cases f1 : cmpI a.n b.n = 0
        · rw [if_pos f1] at p
          have en := (goodI.zero _ _).1 f1
          by_cases f2 : cmpI b.n d.n = 0
          · rw [if_pos f2] at q
            have en2 := (goodI.zero _ _).1 f2
            rw [if_pos (by rw [en, en2]; exact goodI.self _)]
            exact hs p q
          · rw [if_neg f2] at q
            rw [en, if_neg f2]; exact q
        · rw [if_neg f1] at p
          by_cases f2 : cmpI b.n d.n = 0
          · have en2 := (goodI.zero _ _).1 f2
            rw [← en2, if_neg f1]; exact p
          · rw [if_neg f2] at q
            have := goodI.lt_le (show cmpI a.n b.n < 0 by omega) q
            rw [if_neg (by omega)]; omega
      · rw [if_neg e2] at q
        rw [ek, if_neg e2]; exact q
    · rw [if_neg e1] at p
      by_cases e2 : cmpI b.k d.k = 0
      · have ek2 := (goodI.zero _ _).1 e2
        rw [← ek2, if_neg e1]; exact p
      · rw [if_neg e2] at q
        have := goodI.lt_le (show cmpI a.k b.k < 0 by omega) q
        rw [if_neg (by omega)]; omega
/-- Rows. -/
def cmpR (a b : List V) : Int := cmpL cmpV a b
theorem goodR : Good cmpR := goodL goodV

instance : Inhabited V := ⟨⟨0, 0, ByteArray.empty⟩⟩
noncomputable instance : DecidableEq V := fun a b => if h : cmpV a b = 0 then isTrue ((goodV.zero a b).1 h) else isFalse fun e => h ((goodV.zero a b).2 e)

/-! ## which values are valid -/
def validP (v : V) : Prop :=
  ((v.k = 1 ∨ v.k = 2) ∧ v.n = 0 ∧ v.t = ByteArray.empty) ∨ (v.k = 3 ∧ (v.n = 0 ∨ v.n = 1) ∧ v.t = ByteArray.empty) ∨ (v.k = 4 ∧ v.t = ByteArray.empty) ∨ (v.k = 5 ∧ v.n = 0 ∧ v.t.size ≤ 64)
instance (v : V) : Decidable (validP v) := by unfold validP; infer_instance
def validB (v : V) : Bool := decide (validP v)
def realB (v : V) : Bool := validB v && decide (3 ≤ v.k)
theorem empty_iff (t : ByteArray) : t.toList = [] ↔ t = ByteArray.empty := by
  constructor
  · intro h; exact toList_inj (h.trans (by rw [ByteArray.toList_eq]; rfl))
  · rintro rfl; rw [ByteArray.toList_eq]; rfl
end Go.Proofs.YtpmlhgakbpfgmaaDoor
