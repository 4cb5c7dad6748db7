import Derived.Test.YtmjokpakekfkfaaRows
import Derived.Sort.Grow
import Derived.Below
import Derived.Deep.Draws
import Derived.Laws.Strings
import Derived.WalkKit
import Derived.ProofKit
import Derived.OpenShut
import Derived.WalkLawsBesides
import Derived.WalkSpells
import Derived.Lib.Hide
import Derived.Outline
import Derived.Laws.StructEq
import Derived.Deep.QuietTactic
import Derived.BigQuiet
import Derived.Shelf.SlSortCmp.QuietGrown
import Derived.StillTailTactics
/- The plain mathematics of package value: the orders of numbers, texts, values and rows, and that they are total; the least value above a value. No program is named here. -/
set_option linter.unusedSimpArgs false
set_option linter.unusedVariables false
namespace Go.Proofs.Ytmjokpakekfkfaa
open Go.RowKit

/-! ## worlds that only grow -/
/-- w' is w with new blocks behind it, some draws later. -/
structure Gro (w w' : World) : Prop where
  below : Below w.heap.size w w'
  drawn : w.drawn ≤ w'.drawn
theorem Gro.refl (w : World) : Gro w w := ⟨Below.refl _ _, Nat.le_refl _⟩
theorem Gro.trans {a b c : World} (h : Gro a b) (k : Gro b c) : Gro a c := ⟨h.below.trans (k.below.mono h.below.size), Nat.le_trans h.drawn k.drawn⟩
theorem Gro.drew {a w : World} (h : Gro a w) : Gro a w.drew := ⟨h.below.drew, Nat.le_trans h.drawn (Nat.le_succ _)⟩
theorem Gro.drewN {a w : World} (h : Gro a w) (n : Nat) : Gro a (w.drewN n) := ⟨⟨h.below.os, h.below.tape, h.below.output, h.below.size, h.below.block⟩, Nat.le_trans h.drawn (Nat.le_add_right _ _)⟩
theorem Gro.alloc {a w : World} (h : Gro a w) (o : Obj) : Gro a (w.alloc o) := ⟨h.below.alloc h.below.size o, h.drawn⟩
theorem Gro.setCell {a w : World} (h : Gro a w) {p : Addr} (hp : a.heap.size ≤ p.block) (u : Value) : Gro a (w.setCell p u) := ⟨h.below.setCell hp u, h.drawn⟩
theorem Gro.size {a w : World} (h : Gro a w) : a.heap.size ≤ w.heap.size := h.below.size
theorem Gro.grow {w w' : World} (h : Gro w w') : ∃ q os, w' = Go.Sort.grow (w.drewN q) os := by
  obtain ⟨⟨h1, h2, h3, h4, h5⟩, h6⟩ := h
  refine ⟨w'.drawn - w.drawn, w'.heap.extract w.heap.size w'.heap.size, ?_⟩
  unfold World.drewN
  cases w'
  cases w
  simp only at h1 h2 h3 h4 h5 h6
  subst h1 h2 h3
  simp only [Go.Sort.grow, World.mk.injEq, true_and, and_true]
  refine ⟨?_, by omega⟩
  apply Array.ext_getElem?
  intro k
  rw [Array.getElem?_append]
  split
  · exact h5 k ‹_›
  · rw [Array.getElem?_extract]
    rename_i hk
    split
    · congr 1; omega
    · rename_i hk2; rw [Array.getElem?_eq_none]; omega

/-! ## three-way orders -/
structure Good {α : Type} (c : α → α → Int) : Prop where
  range : ∀ a b, c a b = -1 ∨ c a b = 0 ∨ c a b = 1
  zero : ∀ a b, c a b = 0 ↔ a = b
  neg : ∀ a b, c a b = - c b a
  trans : ∀ a b d, c a b ≤ 0 → c b d ≤ 0 → c a d ≤ 0

theorem Good.self {α : Type} {c : α → α → Int} (h : Good c) (a : α) : c a a = 0 := (h.zero a a).2 rfl
/-- strict on the left. -/
theorem Good.lt_le {α : Type} {c : α → α → Int} (h : Good c) {a b d : α} (h1 : c a b < 0) (h2 : c b d ≤ 0) : c a d < 0 := by
  have h3 := h.trans a b d (by omega) h2
  have h4 : c a d ≠ 0 := fun e => by
    have := (h.zero a d).1 e
    subst this
    have := h.neg a b
    omega
  omega
theorem Good.le_lt {α : Type} {c : α → α → Int} (h : Good c) {a b d : α} (h1 : c a b ≤ 0) (h2 : c b d < 0) : c a d < 0 := by
  have h3 := h.trans a b d h1 (by omega)
  have h4 : c a d ≠ 0 := fun e => by
    have := (h.zero a d).1 e
    subst this
    have := h.neg a b
    omega
  omega

def cmpI (a b : Int) : Int := if a < b then -1 else if b < a then 1 else 0
theorem goodI : Good cmpI where
  range a b := by unfold cmpI; split <;> (try split) <;> simp
  zero a b := by unfold cmpI; split <;> (try split) <;> simp <;> omega
  neg a b := by unfold cmpI; split <;> (try split) <;> (try split) <;> (try split) <;> omega
  trans a b d := by unfold cmpI; repeat' split
                    all_goals omega

/-- First by c, then by d. -/
def lex {α : Type} (c d : α → α → Int) (a b : α) : Int := if c a b = 0 then d a b else c a b

/-- Lists by their first cells that differ; a list before its continuations. -/
def cmpL {α : Type} (c : α → α → Int) : List α → List α → Int
  | [], [] => 0
  | [], _ :: _ => -1
  | _ :: _, [] => 1
  | a :: x, b :: y => if c a b = 0 then cmpL c x y else c a b

theorem goodL {α : Type} {c : α → α → Int} (h : Good c) : Good (cmpL c) where
  range a b := by
    induction a generalizing b with
    | nil => cases b <;> simp [cmpL]
    | cons x xs ih =>
      cases b with
      | nil => simp [cmpL]
      | cons y ys => simp only [cmpL]; split
                     · exact ih ys
                     · exact h.range x y
  zero a b := by
    induction a generalizing b with
    | nil => cases b <;> simp [cmpL]
    | cons x xs ih =>
      cases b with
      | nil => simp [cmpL]
      | cons y ys =>
        simp only [cmpL]
        have hz := h.zero x y
        split
        · rw [ih ys]; simp; intro _; exact hz.1 ‹_›
        · simp; constructor
          · intro e; contradiction
          · intro e1; exact absurd (hz.2 e1.1) ‹_›
  neg a b := by
    induction a generalizing b with
    | nil => cases b <;> simp [cmpL]
    | cons x xs ih =>
      cases b with
      | nil => simp [cmpL]
      | cons y ys =>
        simp only [cmpL]
        have hn := h.neg x y
        by_cases e : c x y = 0
        · rw [if_pos e, if_pos (by omega)]; exact ih ys
        · rw [if_neg e, if_neg (by omega)]; exact hn
  trans a b d := by
    induction a generalizing b d with
    | nil => cases d <;> simp [cmpL]
    | cons x xs ih =>
      cases b with
      | nil => simp [cmpL]
      | cons y ys =>
        cases d with
        | nil => simp [cmpL]
        | cons z zs =>
          simp only [cmpL]
          by_cases e1 : c x y = 0
          · have := (h.zero x y).1 e1
            subst this
            rw [if_pos e1]
            by_cases e2 : c x z = 0
            · rw [if_pos e2, if_pos e2]; exact ih ys zs
            · rw [if_neg e2, if_neg e2]; intro _ k; exact k
          · rw [if_neg e1]
            intro k1 k2
            by_cases e2 : c y z = 0
            · have := (h.zero y z).1 e2
              subst this
              rw [if_neg e1]; exact k1
            · rw [if_neg e2] at k2
              have := h.lt_le (show c x y < 0 by omega) k2
              rw [if_neg (by omega)]
              omega

/-! ## texts -/
def cmpB (a b : UInt8) : Int := cmpI a.toNat b.toNat
theorem goodB : Good cmpB where
  range a b := goodI.range _ _
  zero a b := by unfold cmpB; rw [goodI.zero]; constructor
                 · intro h; exact UInt8.toNat_inj.1 (by omega)
                 · rintro rfl; rfl
  neg a b := goodI.neg _ _
  trans a b d := goodI.trans _ _ _
def cmpS (a b : ByteArray) : Int := cmpL cmpB a.toList b.toList
theorem toList_inj {a b : ByteArray} (h : a.toList = b.toList) : a = b := by
  rw [ByteArray.toList_eq, ByteArray.toList_eq] at h
  obtain ⟨⟨x⟩⟩ := a
  obtain ⟨⟨y⟩⟩ := b
  simp at h
  rw [h]
theorem goodS : Good cmpS where
  range a b := (goodL goodB).range _ _
  zero a b := by unfold cmpS; rw [(goodL goodB).zero]; exact ⟨toList_inj, fun h => by rw [h]⟩
  neg a b := (goodL goodB).neg _ _
  trans a b d := (goodL goodB).trans _ _ _
theorem bytesLess_iff (a b : List UInt8) : Op.bytesLess a b = decide (cmpL cmpB a b < 0) := by
  induction a generalizing b with
  | nil => cases b <;> simp [Op.bytesLess, cmpL]
  | cons x xs ih =>
    cases b with
    | nil => simp [Op.bytesLess, cmpL]
    | cons y ys =>
      simp only [Op.bytesLess, cmpL, ih]
      have hx : x < y ↔ cmpB x y < 0 := by
        unfold cmpB cmpI; rw [UInt8.lt_iff_toNat_lt]; split <;> (try split) <;> omega
      by_cases e : cmpB x y = 0
      · have := (goodB.zero x y).1 e
        subst this
        simp [goodB.self]
      · have hne : x ≠ y := fun h => e ((goodB.zero x y).2 h)
        by_cases hlt : x < y
        · simp [hlt, hx.1 hlt, e]
        · have : ¬ cmpB x y < 0 := fun h => hlt (hx.2 h)
          simp [hlt, hne, this, e]
theorem less_S (a b : ByteArray) : Op.bytesLess a.toList b.toList = decide (cmpS a b < 0) := bytesLess_iff _ _
theorem eq_S (a b : ByteArray) : (a.toList == b.toList) = decide (cmpS a b = 0) := by
  rw [Bool.eq_iff_iff]; simp [goodS.zero]
  exact ⟨toList_inj, fun h => by rw [h]⟩

/-! ## values -/
structure V where
  k : Int
  n : Int
  t : ByteArray
/-- The value as Go holds it. -/
abbrev V.val (v : V) : Value := .agg #[.int .i64 v.k, .int .i64 v.n, .string v.t]
def cmpV (a b : V) : Int := if cmpI a.k b.k = 0 then (if cmpI a.n b.n = 0 then cmpS a.t b.t else cmpI a.n b.n) else cmpI a.k b.k
theorem V.ext' {a b : V} (h1 : a.k = b.k) (h2 : a.n = b.n) (h3 : a.t = b.t) : a = b := by cases a; cases b; simp_all
theorem goodV : Good cmpV where
  range a b := by
    unfold cmpV; split
    · split
      · exact goodS.range _ _
      · exact goodI.range _ _
    · exact goodI.range _ _
  zero a b := by
    unfold cmpV; split
    · split
      · rw [goodS.zero]
        have h1 := (goodI.zero _ _).1 ‹cmpI a.k b.k = 0›
        have h2 := (goodI.zero _ _).1 ‹cmpI a.n b.n = 0›
        exact ⟨fun h => V.ext' h1 h2 h, fun h => by rw [h]⟩
      · constructor
        · intro h; contradiction
        · rintro rfl; exact goodI.self _
    · constructor
      · intro h; contradiction
      · rintro rfl; exact goodI.self _
  neg a b := by
    have h1 := goodI.neg a.k b.k
    have h2 := goodI.neg a.n b.n
    have h3 := goodS.neg a.t b.t
    unfold cmpV
    by_cases e1 : cmpI a.k b.k = 0
    · rw [if_pos e1, if_pos (show cmpI b.k a.k = 0 by omega)]
      by_cases e2 : cmpI a.n b.n = 0
      · rw [if_pos e2, if_pos (show cmpI b.n a.n = 0 by omega)]; exact h3
      · rw [if_neg e2, if_neg (show ¬ cmpI b.n a.n = 0 by omega)]; exact h2
    · rw [if_neg e1, if_neg (show ¬ cmpI b.k a.k = 0 by omega)]; exact h1
  trans a b d := by
    have hk := goodI.trans a.k b.k d.k
    have hn := goodI.trans a.n b.n d.n
    have hs := goodS.trans a.t b.t d.t
    intro p q
    unfold cmpV at p q ⊢
    by_cases e1 : cmpI a.k b.k = 0
    · rw [if_pos e1] at p
      have ek := (goodI.zero _ _).1 e1
      by_cases e2 : cmpI b.k d.k = 0
      · rw [if_pos e2] at q
        have ek2 := (goodI.zero _ _).1 e2
        rw [if_pos (by rw [ek, ek2]; exact goodI.self _)]
        by_cases f1 : cmpI a.n b.n = 0
        · rw [if_pos f1] at p
          have en := (goodI.zero _ _).1 f1
          by_cases f2 : cmpI b.n d.n = 0
          · rw [if_pos f2] at q
            have en2 := (goodI.zero _ _).1 f2
            rw [if_pos (by rw [en, en2]; exact goodI.self _)]
            exact hs p q
          · rw [if_neg f2] at q
            rw [en, if_neg f2]; exact q
        · rw [if_neg f1] at p
          by_cases f2 : cmpI b.n d.n = 0
          · have en2 := (goodI.zero _ _).1 f2
            rw [← en2, if_neg f1]; exact p
          · rw [if_neg f2] at q
            have := goodI.lt_le (show cmpI a.n b.n < 0 by omega) q
            rw [if_neg (by omega)]; omega
      · rw [if_neg e2] at q
        rw [ek, if_neg e2]; exact q
    · rw [if_neg e1] at p
      by_cases e2 : cmpI b.k d.k = 0
      · have ek2 := (goodI.zero _ _).1 e2
        rw [← ek2, if_neg e1]; exact p
      · rw [if_neg e2] at q
        have := goodI.lt_le (show cmpI a.k b.k < 0 by omega) q
        rw [if_neg (by omega)]; omega
/-- Rows. -/
def cmpR (a b : List V) : Int := cmpL cmpV a b
theorem goodR : Good cmpR := goodL goodV

instance : Inhabited V := ⟨⟨0, 0, ByteArray.empty⟩⟩
noncomputable instance : DecidableEq V := fun a b => if h : cmpV a b = 0 then isTrue ((goodV.zero a b).1 h) else isFalse fun e => h ((goodV.zero a b).2 e)

/-! ## which values are valid -/
def validP (v : V) : Prop :=
  ((v.k = 1 ∨ v.k = 2) ∧ v.n = 0 ∧ v.t = ByteArray.empty) ∨ (v.k = 3 ∧ (v.n = 0 ∨ v.n = 1) ∧ v.t = ByteArray.empty) ∨ (v.k = 4 ∧ v.t = ByteArray.empty) ∨ (v.k = 5 ∧ v.n = 0 ∧ v.t.size ≤ 64)
instance (v : V) : Decidable (validP v) := by unfold validP; infer_instance
def validB (v : V) : Bool := decide (validP v)
def realB (v : V) : Bool := validB v && decide (3 ≤ v.k)
theorem empty_iff (t : ByteArray) : t.toList = [] ↔ t = ByteArray.empty := by
  constructor
  · intro h; exact toList_inj (h.trans (by rw [ByteArray.toList_eq]; rfl))
  · rintro rfl; rw [ByteArray.toList_eq]; rfl
end Go.Proofs.Ytmjokpakekfkfaa

/- The plain mathematics of intervals: which lists are canonical, which values they contain. No program is named here. -/
set_option linter.unusedSimpArgs false
set_option linter.unusedVariables false
namespace Go.Proofs.Ytmjokpakekfkfaa
open Go.RowKit

/-- An interval. -/
structure I where
  f : V
  t : V
  o : Bool
abbrev I.val (x : I) : Value := .agg #[.int .i64 x.f.k, .int .i64 x.f.n, .string x.f.t, .int .i64 x.t.k, .int .i64 x.t.n, .string x.t.t, .bool x.o]
theorem I.ext' {a b : I} (h1 : a.f = b.f) (h2 : a.t = b.t) (h3 : a.o = b.o) : a = b := by cases a; cases b; simp_all
instance : Inhabited I := ⟨⟨default, default, false⟩⟩
noncomputable instance : DecidableEq I := fun a b => if h : a.f = b.f ∧ a.t = b.t ∧ a.o = b.o then isTrue (I.ext' h.1 h.2.1 h.2.2) else isFalse fun e => h (by rw [e]; exact ⟨rfl, rfl, rfl⟩)
def zV : V := ⟨0, 0, ByteArray.empty⟩
/-- What one interval of a canonical list is. -/
noncomputable def partB (x : I) : Bool := if x.o = true then validB x.f && decide (x.t = zV) else validB x.f && validB x.t && decide (cmpV x.f x.t < 0)
def sepB (x y : I) : Bool := !x.o && decide (cmpV x.t y.f < 0)
/-- Canonical but for the length. -/
def Ord (l : List I) : Prop := ∀ i (h : i < l.length), partB l[i] = true ∧ ∀ h0 : 0 < i, sepB (l[i - 1]'(by omega)) l[i] = true
noncomputable def ordB (l : List I) : Bool := @decide (Ord l) (Classical.propDecidable _)
theorem ordB_iff {l : List I} : ordB l = true ↔ Ord l := by unfold ordB; simp
theorem ordB_no {l : List I} (h : ¬ Ord l) : ordB l = false := by unfold ordB; simp [h]
noncomputable def canonB (l : List I) : Bool := decide (l.length ≤ 64) && ordB l
/-- v lies in x. -/
def inI (x : I) (v : V) : Bool := decide (cmpV x.f v ≤ 0) && (x.o || decide (cmpV v x.t < 0))
def inB (l : List I) (v : V) : Bool := l.any (fun x => inI x v)
noncomputable def hasB (l : List I) (v : V) : Bool := validB v && canonB l && inB l v
theorem inB_iff {l : List I} {v : V} : inB l v = true ↔ ∃ x ∈ l, inI x v = true := by unfold inB; simp
theorem inI_iff {x : I} {v : V} : inI x v = true ↔ cmpV x.f v ≤ 0 ∧ (x.o = true ∨ cmpV v x.t < 0) := by unfold inI; simp
theorem partB_open {x : I} (h : partB x = true) (ho : x.o = true) : validB x.f = true ∧ x.t = zV := by
  unfold partB at h; rw [if_pos ho] at h; simpa using h
theorem partB_closed {x : I} (h : partB x = true) (ho : x.o = false) : validB x.f = true ∧ validB x.t = true ∧ cmpV x.f x.t < 0 := by
  unfold partB at h; rw [if_neg (by simp [ho])] at h; simp at h; exact ⟨h.1.1, h.1.2, h.2⟩
theorem partB_from {x : I} (h : partB x = true) : validB x.f = true := by
  cases ho : x.o
  · exact (partB_closed h ho).1
  · exact (partB_open h ho).1
theorem sepB_iff {x y : I} : sepB x y = true ↔ x.o = false ∧ cmpV x.t y.f < 0 := by unfold sepB; simp

/-! ### lists by their heads -/
/-- Canonical behind a bound: the first interval begins above b. -/
inductive OrdL : List I → Prop
  | nil : OrdL []
  | one {x : I} : partB x = true → OrdL [x]
  | cons {x y : I} {l : List I} : partB x = true → sepB x y = true → OrdL (y :: l) → OrdL (x :: y :: l)
theorem ord_cons {x : I} {l : List I} (h : Ord (x :: l)) : Ord l := by
  intro i hi
  obtain ⟨h1, h2⟩ := h (i + 1) (by simp; omega)
  refine ⟨by simpa using h1, fun h0 => ?_⟩
  have h3 := h2 (by omega)
  obtain ⟨j, rfl⟩ : ∃ j, i = j + 1 := ⟨i - 1, by omega⟩
  simpa using h3
theorem ord_iff {l : List I} : Ord l ↔ OrdL l := by
  constructor
  · intro h
    induction l with
    | nil => exact .nil
    | cons x l ih =>
      have hl := ih (ord_cons h)
      cases l with
      | nil => exact .one (h 0 (by simp)).1
      | cons y l => exact .cons (h 0 (by simp)).1 (by have := (h 1 (by simp)).2 (by omega); simpa using this) hl
  · intro h
    induction h with
    | nil => intro i hi; simp at hi
    | one hx => intro i hi; simp at hi; subst hi; exact ⟨hx, fun h0 => by omega⟩
    | cons hx hs _ ih =>
      intro i hi
      rcases i with _ | i
      · exact ⟨hx, fun h0 => by omega⟩
      · obtain ⟨h1, h2⟩ := ih i (by simp at hi ⊢; omega)
        refine ⟨by simpa using h1, fun h0 => ?_⟩
        rcases i with _ | i
        · simpa using hs
        · simpa using h2 (by omega)
theorem OrdL.tail {x : I} {l : List I} (h : OrdL (x :: l)) : OrdL l := by cases h <;> first | exact .nil | assumption
theorem OrdL.head {x : I} {l : List I} (h : OrdL (x :: l)) : partB x = true := by cases h <;> assumption
/-- All begins lie at or above the first one; all but it above its end. -/
theorem OrdL.above {x : I} {l : List I} (h : OrdL (x :: l)) : ∀ y ∈ l, x.o = false ∧ cmpV x.t y.f < 0 := by
  induction l generalizing x with
  | nil => intro y hy; simp at hy
  | cons z l ih =>
    cases h with
    | cons hx hs hl =>
      obtain ⟨s1, s2⟩ := sepB_iff.1 hs
      intro y hy
      rcases List.mem_cons.1 hy with rfl | hy
      · exact ⟨s1, s2⟩
      · obtain ⟨z1, z2⟩ := ih hl y hy
        have hz := (partB_closed hl.head z1).2.2
        refine ⟨s1, ?_⟩
        have := goodV.lt_le (goodV.lt_le s2 (by omega : cmpV z.f z.t ≤ 0)) (by omega : cmpV z.t y.f ≤ 0)
        exact this
theorem OrdL.begin_le {x : I} {l : List I} (h : OrdL (x :: l)) : ∀ y ∈ x :: l, cmpV x.f y.f ≤ 0 := by
  intro y hy
  rcases List.mem_cons.1 hy with rfl | hy
  · rw [goodV.self]; omega
  · obtain ⟨h1, h2⟩ := h.above y hy
    have := (partB_closed h.head h1).2.2
    have := goodV.lt_le this (by omega : cmpV x.t y.f ≤ 0)
    omega
theorem head_in {x : I} {l : List I} (h : OrdL (x :: l)) : inB (x :: l) x.f = true := by
  refine inB_iff.2 ⟨x, by simp, inI_iff.2 ⟨by rw [goodV.self]; omega, ?_⟩⟩
  cases ho : x.o
  · right; exact (partB_closed h.head ho).2.2
  · left; rfl
theorem in_ge {x : I} {l : List I} (h : OrdL (x :: l)) {v : V} (hv : inB (x :: l) v = true) : cmpV x.f v ≤ 0 := by
  obtain ⟨y, hy, hv⟩ := inB_iff.1 hv
  exact goodV.trans _ _ _ (h.begin_le y hy) (inI_iff.1 hv).1
theorem zero_invalid : validB zV = false := by decide +kernel
/-- Two canonical lists that contain the same valid values are equal. -/
theorem OrdL.unique : ∀ {l m : List I}, OrdL l → OrdL m → (∀ v, validB v = true → inB l v = inB m v) → l = m := by
  intro l
  induction l with
  | nil =>
    intro m hl hm h
    cases m with
    | nil => rfl
    | cons y m =>
      have := h y.f (partB_from hm.head)
      rw [head_in hm] at this
      simp [inB] at this
  | cons x l ih =>
    intro m hl hm h
    cases m with
    | nil =>
      have := h x.f (partB_from hl.head)
      rw [head_in hl] at this
      simp [inB] at this
    | cons y m =>
      have e1 : cmpV y.f x.f ≤ 0 := in_ge hm (by rw [← h x.f (partB_from hl.head)]; exact head_in hl)
      have e2 : cmpV x.f y.f ≤ 0 := in_ge hl (by rw [h y.f (partB_from hm.head)]; exact head_in hm)
      have ef : x.f = y.f := (goodV.zero _ _).1 (by have := goodV.neg x.f y.f; omega)
      -- a value at the end of a closed head is not in the list
      have out : ∀ {z : I} {k : List I}, OrdL (z :: k) → z.o = false → inB (z :: k) z.t = false := by
        intro z k hz ho
        rw [Bool.eq_false_iff]
        intro hc
        obtain ⟨u, hu, hv⟩ := inB_iff.1 hc
        rcases List.mem_cons.1 hu with rfl | hu
        · have := (inI_iff.1 hv).2
          rw [ho] at this
          simp [goodV.self] at this
        · have h1 := (hz.above u hu).2
          have h2 := (inI_iff.1 hv).1
          have := goodV.lt_le h1 h2
          rw [goodV.self] at this
          omega
      have inn : ∀ {z : I} {k : List I} {v : V}, cmpV z.f v ≤ 0 → (z.o = true ∨ cmpV v z.t < 0) → inB (z :: k) v = true := fun a b => inB_iff.2 ⟨_, by simp, inI_iff.2 ⟨a, b⟩⟩
      have hend : x.o = y.o ∧ x.t = y.t := by
        cases hx : x.o <;> cases hy : y.o
        · refine ⟨rfl, ?_⟩
          obtain ⟨x1, x2, x3⟩ := partB_closed hl.head hx
          obtain ⟨y1, y2, y3⟩ := partB_closed hm.head hy
          have hr := goodV.range x.t y.t
          have hn := goodV.neg x.t y.t
          by_cases c1 : cmpV x.t y.t < 0
          · have a1 := out hl hx
            rw [h x.t x2, inn (by rw [← ef]; omega) (.inr c1)] at a1
            cases a1
          · by_cases c2 : cmpV y.t x.t < 0
            · have a1 := out hm hy
              rw [← h y.t y2, inn (by rw [ef]; omega) (.inr c2)] at a1
              cases a1
            · exact (goodV.zero _ _).1 (by omega)
        · exfalso
          obtain ⟨x1, x2, x3⟩ := partB_closed hl.head hx
          have a1 := out hl hx
          rw [h x.t x2, inn (by rw [← ef]; omega) (.inl hy)] at a1
          cases a1
        · exfalso
          obtain ⟨y1, y2, y3⟩ := partB_closed hm.head hy
          have a1 := out hm hy
          rw [← h y.t y2, inn (by rw [ef]; omega) (.inl hx)] at a1
          cases a1
        · exact ⟨rfl, by rw [(partB_open hl.head hx).2, (partB_open hm.head hy).2]⟩
      have exy : x = y := I.ext' ef hend.2 hend.1
      subst exy
      congr 1
      refine ih hl.tail hm.tail fun v hv => ?_
      have hh := h v hv
      have key : ∀ {k : List I}, OrdL (x :: k) → inB k v = (inB (x :: k) v && !inI x v) := by
        intro k hk
        rw [Bool.eq_iff_iff]
        simp only [Bool.and_eq_true, Bool.not_eq_true']
        constructor
        · intro hin
          refine ⟨?_, ?_⟩
          · obtain ⟨u, hu, hv'⟩ := inB_iff.1 hin
            exact inB_iff.2 ⟨u, by simp [hu], hv'⟩
          · rw [Bool.eq_false_iff]
            intro hx
            obtain ⟨u, hu, hv'⟩ := inB_iff.1 hin
            obtain ⟨a1, a2⟩ := hk.above u hu
            have := (inI_iff.1 hx).2
            rw [a1] at this
            simp at this
            have b1 := (inI_iff.1 hv').1
            have b2 := goodV.lt_le a2 b1
            have b3 := goodV.neg x.t v
            omega
        · rintro ⟨hin, hx⟩
          obtain ⟨u, hu, hv'⟩ := inB_iff.1 hin
          rcases List.mem_cons.1 hu with rfl | hu
          · rw [hv'] at hx; cases hx
          · exact inB_iff.2 ⟨u, hu, hv'⟩
      rw [key hl, key hm, hh]
end Go.Proofs.Ytmjokpakekfkfaa

/- The plain mathematics of merging: the edges of a list, and which values lie behind an odd number of them. -/
set_option linter.unusedSimpArgs false
set_option linter.unusedVariables false
namespace Go.Proofs.Ytmjokpakekfkfaa
open Go.RowKit

/-- How many edges stand at v or below. -/
def cnt (E : List V) (v : V) : Nat := (E.filter (fun e => decide (cmpV e v ≤ 0))).length
def par (E : List V) (v : V) : Bool := decide (cnt E v % 2 = 1)
def oddB (n : Nat) : Bool := decide (n % 2 = 1)
def AscV (E : List V) : Prop := E.Pairwise (fun a b => cmpV a b < 0)
theorem cnt_nil (v : V) : cnt [] v = 0 := rfl
theorem cnt_cons (e : V) (E : List V) (v : V) : cnt (e :: E) v = (if cmpV e v ≤ 0 then 1 else 0) + cnt E v := by
  unfold cnt
  by_cases h : cmpV e v ≤ 0
  · simp [List.filter_cons, h]; omega
  · simp [List.filter_cons, h]
theorem cnt_append (E F : List V) (v : V) : cnt (E ++ F) v = cnt E v + cnt F v := by unfold cnt; simp
theorem cnt_none {E : List V} {v : V} (h : ∀ e ∈ E, cmpV v e < 0) : cnt E v = 0 := by
  induction E with
  | nil => rfl
  | cons e E ih =>
    rw [cnt_cons, ih (fun x hx => h x (by simp [hx]))]
    have := h e (by simp)
    have := goodV.neg e v
    rw [if_neg (by omega)]
theorem cnt_all {E : List V} {v : V} (h : ∀ e ∈ E, cmpV e v ≤ 0) : cnt E v = E.length := by
  induction E with
  | nil => rfl
  | cons e E ih =>
    rw [cnt_cons, ih (fun x hx => h x (by simp [hx])), if_pos (h e (by simp))]
    simp; omega
theorem par_all {E : List V} {v : V} (h : ∀ e ∈ E, cmpV e v ≤ 0) : par E v = oddB E.length := by unfold par oddB; rw [cnt_all h]
theorem par_nil (v : V) : par [] v = false := rfl
theorem par_snoc_lt {E : List V} {p v : V} (h : cmpV v p < 0) : par (E ++ [p]) v = par E v := by
  unfold par
  rw [cnt_append, cnt_none (E := [p]) (by simpa using h)]
  rfl

/-- Where the intervals begin and end. -/
def edges : List I → List V
  | [] => []
  | x :: l => if x.o = true then x.f :: edges l else x.f :: x.t :: edges l
theorem edges_len (l : List I) : (edges l).length ≤ 2 * l.length := by
  induction l with
  | nil => simp [edges]
  | cons x l ih => simp only [edges]; split <;> (simp; omega)
theorem edges_snoc (l : List I) (x : I) : edges (l ++ [x]) = edges l ++ edges [x] := by
  induction l with
  | nil => simp [edges]
  | cons y l ih => simp only [List.cons_append, edges, ih]; split <;> simp
theorem mem_edges {l : List I} {e : V} : e ∈ edges l ↔ ∃ x ∈ l, e = x.f ∨ (x.o = false ∧ e = x.t) := by
  induction l with
  | nil => simp [edges]
  | cons y l ih =>
    simp only [edges]
    cases ho : y.o
    · simp [ih, ho]
      constructor
      · rintro (h | h | h)
        · exact .inl (.inl h)
        · exact .inl (.inr h)
        · exact .inr h
      · rintro ((h | h) | h)
        · exact .inl h
        · exact .inr (.inl h)
        · exact .inr (.inr h)
    · simp [ih, ho]
theorem edges_above {x : I} {l : List I} (h : OrdL (x :: l)) (ho : x.o = false) : ∀ e ∈ edges l, cmpV x.t e < 0 := by
  intro e he
  obtain ⟨y, hy, hh⟩ := mem_edges.1 he
  obtain ⟨-, h2⟩ := h.above y hy
  rcases hh with rfl | ⟨h3, rfl⟩
  · exact h2
  · have hp : partB y = true := by
      have := ord_iff.2 h
      obtain ⟨i, hi, rfl⟩ := List.mem_iff_getElem.1 (List.mem_cons_of_mem x hy)
      exact (this i hi).1
    exact goodV.lt_le h2 (by have := (partB_closed hp h3).2.2; omega)
theorem ord_part {l : List I} (h : OrdL l) {y : I} (hy : y ∈ l) : partB y = true := by
  obtain ⟨i, hi, rfl⟩ := List.mem_iff_getElem.1 hy
  exact ((ord_iff.2 h) i hi).1
theorem open_last {x : I} {l : List I} (h : OrdL (x :: l)) (ho : x.o = true) : l = [] := by
  cases l with
  | nil => rfl
  | cons y l => have := (h.above y (by simp)).1; rw [ho] at this; cases this
theorem edges_ok {l : List I} (h : OrdL l) : AscV (edges l) ∧ (∀ e ∈ edges l, validB e = true) ∧ ∀ v, par (edges l) v = inB l v := by
  refine ⟨?_, ?_, ?_⟩
  · induction l with
    | nil => exact List.Pairwise.nil
    | cons x l ih =>
      have hl := ih h.tail
      cases ho : x.o
      · have he : edges (x :: l) = x.f :: x.t :: edges l := by simp [edges, ho]
        rw [he]
        have hp := (partB_closed h.head ho).2.2
        refine List.pairwise_cons.2 ⟨fun e hm => ?_, List.pairwise_cons.2 ⟨edges_above h ho, hl⟩⟩
        rcases List.mem_cons.1 hm with rfl | hm
        · exact hp
        · exact goodV.lt_le hp (by have := edges_above h ho e hm; omega)
      · have hn := open_last h ho
        subst hn
        have he : edges [x] = [x.f] := by simp [edges, ho]
        rw [he]; exact List.pairwise_singleton _ _
  · intro e he
    obtain ⟨y, hy, hh⟩ := mem_edges.1 he
    have hp := ord_part h hy
    rcases hh with rfl | ⟨h3, rfl⟩
    · exact partB_from hp
    · exact (partB_closed hp h3).2.1
  · intro v
    induction l with
    | nil => rfl
    | cons x l ih =>
      have hl := ih h.tail
      have hin : inB (x :: l) v = (inI x v || inB l v) := by simp [inB]
      rw [hin]
      have hneg := goodV.neg x.f v
      have hnegt := goodV.neg x.t v
      cases ho : x.o
      · have he : edges (x :: l) = x.f :: x.t :: edges l := by simp [edges, ho]
        obtain ⟨-, -, hp⟩ := partB_closed h.head ho
        have hab := edges_above h ho
        have hi : inI x v = (decide (cmpV x.f v ≤ 0) && decide (cmpV v x.t < 0)) := by simp [inI, ho]
        rw [hi, ← hl]
        unfold par
        rw [he, cnt_cons, cnt_cons]
        by_cases c2 : cmpV x.t v ≤ 0
        · have c1 : cmpV x.f v ≤ 0 := goodV.trans _ _ _ (by omega : cmpV x.f x.t ≤ 0) c2
          have c3 : ¬ cmpV v x.t < 0 := by omega
          rw [if_pos c1, if_pos c2]
          simp [c1, c3]
          omega
        · have hz : cnt (edges l) v = 0 := cnt_none fun e hm => goodV.lt_le (by omega : cmpV v x.t < 0) (by have := hab e hm; omega)
          have c3 : cmpV v x.t < 0 := by omega
          rw [if_neg c2, hz]
          by_cases c1 : cmpV x.f v ≤ 0
          · simp [c1, c3]
          · simp [c1]
      · have hn := open_last h ho
        subst hn
        have he : edges [x] = [x.f] := by simp [edges, ho]
        have hi : inI x v = decide (cmpV x.f v ≤ 0) := by simp [inI, ho]
        rw [hi, he]
        unfold par
        rw [cnt_cons, cnt_nil]
        by_cases c1 : cmpV x.f v ≤ 0 <;> simp [c1, inB]

/-- The intervals between the edges. -/
def ivs : List V → List I
  | a :: b :: E => ⟨a, b, false⟩ :: ivs E
  | [a] => [⟨a, zV, true⟩]
  | [] => []
theorem ivs_edges : ∀ E : List V, edges (ivs E) = E
  | a :: b :: E => by simp [ivs, edges, ivs_edges E]
  | [a] => by simp [ivs, edges]
  | [] => rfl
theorem ivs_ord : ∀ E : List V, AscV E → (∀ e ∈ E, validB e = true) → OrdL (ivs E)
  | a :: b :: E => fun h hv => by
      obtain ⟨h1, h2⟩ := List.pairwise_cons.1 h
      obtain ⟨h3, h4⟩ := List.pairwise_cons.1 h2
      have ih := ivs_ord E h4 (fun e he => hv e (by simp [he]))
      have hp : partB ⟨a, b, false⟩ = true := by
        unfold partB
        simp [hv a (by simp), hv b (by simp), h1 b (by simp)]
      simp only [ivs]
      match E, ih, h3 with
      | [], ih, h3 => exact .one hp
      | [c], ih, h3 => exact .cons hp (sepB_iff.2 ⟨rfl, h3 c (by simp)⟩) ih
      | c :: d :: F, ih, h3 => exact .cons hp (sepB_iff.2 ⟨rfl, h3 c (by simp)⟩) ih
  | [a] => fun _ hv => .one (by unfold partB; simp [hv a (by simp)])
  | [] => fun _ _ => .nil
theorem ivs_in {E : List V} (h : AscV E) (hv : ∀ e ∈ E, validB e = true) (v : V) : inB (ivs E) v = par E v := by
  rw [← (edges_ok (ivs_ord E h hv)).2.2 v, ivs_edges]
theorem ivs_len : ∀ E : List V, (ivs E).length = (E.length + 1) / 2
  | a :: b :: E => by simp [ivs, ivs_len E]; omega
  | [a] => by simp [ivs]
  | [] => rfl

/-! ### one step of the merging -/
/-- A list of passed edges goes on by p, or stays. -/
def Grew (T T' : List V) (p : V) : Prop := T' = T ∨ T' = T ++ [p]
theorem Grew.lt {T T' : List V} {p v : V} (h : Grew T T' p) (hv : cmpV v p < 0) : par T' v = par T v := by
  rcases h with rfl | rfl
  · rfl
  · exact par_snoc_lt hv
theorem Grew.ge {T T' : List V} {p v : V} (h : Grew T T' p) (hT : ∀ e ∈ T, cmpV e p < 0) (hv : cmpV p v ≤ 0) : par T' v = oddB T'.length := by
  refine par_all fun e he => ?_
  have hh : e ∈ T ∨ e = p := by
    rcases h with rfl | rfl
    · exact .inl he
    · simpa using he
  rcases hh with h1 | rfl
  · have := goodV.lt_le (hT e h1) hv; omega
  · exact hv
/-- What is chosen. -/
def flips (op : Bool → Bool → Bool) (a b : Bool) (out : List V) (p : V) : List V := if op a b != oddB out.length then out ++ [p] else out
theorem flips_par {op : Bool → Bool → Bool} {TA TA' TB TB' out : List V} {p : V} (hA : Grew TA TA' p) (hB : Grew TB TB' p) (lA : ∀ e ∈ TA, cmpV e p < 0) (lB : ∀ e ∈ TB, cmpV e p < 0)
    (ho : ∀ e ∈ out, e ∈ TA ∨ e ∈ TB) (h : ∀ v, par out v = op (par TA v) (par TB v)) : ∀ v, par (flips op (oddB TA'.length) (oddB TB'.length) out p) v = op (par TA' v) (par TB' v) := by
  intro v
  have lo : ∀ e ∈ out, cmpV e p < 0 := fun e he => (ho e he).elim (lA e) (lB e)
  by_cases hv : cmpV v p < 0
  · rw [hA.lt hv, hB.lt hv, ← h v]
    unfold flips
    split
    · exact par_snoc_lt hv
    · rfl
  · have hv' : cmpV p v ≤ 0 := by have := goodV.neg p v; omega
    rw [hA.ge lA hv', hB.ge lB hv']
    have hg : Grew out (flips op (oddB TA'.length) (oddB TB'.length) out p) p := by
      unfold flips
      split
      · exact .inr rfl
      · exact .inl rfl
    rw [hg.ge lo hv']
    unfold flips
    generalize op (oddB TA'.length) (oddB TB'.length) = q
    have hodd : oddB (out ++ [p]).length = !oddB out.length := by
      unfold oddB; simp
      by_cases h1 : out.length % 2 = 1
      · simp [h1]; omega
      · simp [h1]; omega
    cases hq : q <;> cases hb : oddB out.length <;> simp_all
theorem flips_asc {op : Bool → Bool → Bool} {a b : Bool} {out : List V} {p : V} (h : AscV out) (hl : ∀ e ∈ out, cmpV e p < 0) : AscV (flips op a b out p) := by
  unfold flips
  split
  · exact List.pairwise_append.2 ⟨h, List.pairwise_singleton _ _, fun e he q hq => by rw [List.mem_singleton] at hq; subst hq; exact hl e he⟩
  · exact h
theorem flips_mem {op : Bool → Bool → Bool} {a b : Bool} {out : List V} {p e : V} (h : e ∈ flips op a b out p) : e ∈ out ∨ e = p := by
  unfold flips at h
  split at h
  · simpa using h
  · exact .inl h
theorem flips_len {op : Bool → Bool → Bool} {a b : Bool} {out : List V} {p : V} : (flips op a b out p).length ≤ out.length + 1 := by
  unfold flips
  split <;> simp
end Go.Proofs.Ytmjokpakekfkfaa

/- The contracts of the smallest functions of package value and of cmp: what each returns, whatever it is called with. -/
set_option linter.unusedSimpArgs false
set_option linter.unusedVariables false
namespace Go.Proofs.Ytmjokpakekfkfaa
open Go.RowKit

theorem isNaN_int (a : Int) (w : World) : Calls Try.prog 76 #[.int .i64 a] w fun e w' => e = .returned (.bool false) ∧ w = w' := by
  go_enter Try.func76, Try.ntmps76
  go_wp2
  go_ret
  exact ⟨by simp, rfl⟩
theorem isNaN_int64 (a : Int) (w : World) : Calls Try.prog 77 #[.int .i64 a] w fun e w' => e = .returned (.bool false) ∧ w = w' := by
  go_enter Try.func77, Try.ntmps77
  go_wp2
  go_ret
  exact ⟨by simp, rfl⟩
theorem isNaN_string (a : ByteArray) (w : World) : Calls Try.prog 78 #[.string a] w fun e w' => e = .returned (.bool false) ∧ w = w' := by
  go_enter Try.func78, Try.ntmps78
  go_wp2
  go_ret
  exact ⟨by simp, rfl⟩

theorem ret_i {a b : Int} (h : a = b) : Ending.returned (.int .i64 a) = .returned (.int .i64 b) := by rw [h]

theorem compare_int (a b : Int) (w : World) : Calls Try.prog 66 #[.int .i64 a, .int .i64 b] w fun e w' => e = .returned (.int .i64 (cmpI a b)) ∧ w = w' := by
  by_cases h1 : a < b
  · go_enter Try.func66, Try.ntmps66
    go_wp2_with (go_at_call 76; refine (isNaN_int _ _).mono ?_; rintro e w' ⟨rfl, rfl⟩)
    go_ret
    exact ⟨ret_i (by unfold cmpI; rw [if_pos h1]), rfl⟩
  · by_cases h2 : b < a
    · go_enter Try.func66, Try.ntmps66
      go_wp2_with (go_at_call 76; refine (isNaN_int _ _).mono ?_; rintro e w' ⟨rfl, rfl⟩)
      go_ret
      exact ⟨ret_i (by unfold cmpI; rw [if_neg (by omega), if_pos (by omega)]), rfl⟩
    · go_enter Try.func66, Try.ntmps66
      go_wp2_with (go_at_call 76; refine (isNaN_int _ _).mono ?_; rintro e w' ⟨rfl, rfl⟩)
      go_ret
      exact ⟨ret_i (by unfold cmpI; rw [if_neg (by omega), if_neg (by omega)]), rfl⟩
theorem compare_int64 (a b : Int) (w : World) : Calls Try.prog 67 #[.int .i64 a, .int .i64 b] w fun e w' => e = .returned (.int .i64 (cmpI a b)) ∧ w = w' := by
  by_cases h1 : a < b
  · go_enter Try.func67, Try.ntmps67
    go_wp2_with (go_at_call 77; refine (isNaN_int64 _ _).mono ?_; rintro e w' ⟨rfl, rfl⟩)
    go_ret
    exact ⟨ret_i (by unfold cmpI; rw [if_pos h1]), rfl⟩
  · by_cases h2 : b < a
    · go_enter Try.func67, Try.ntmps67
      go_wp2_with (go_at_call 77; refine (isNaN_int64 _ _).mono ?_; rintro e w' ⟨rfl, rfl⟩)
      go_ret
      exact ⟨ret_i (by unfold cmpI; rw [if_neg (by omega), if_pos (by omega)]), rfl⟩
    · go_enter Try.func67, Try.ntmps67
      go_wp2_with (go_at_call 77; refine (isNaN_int64 _ _).mono ?_; rintro e w' ⟨rfl, rfl⟩)
      go_ret
      exact ⟨ret_i (by unfold cmpI; rw [if_neg (by omega), if_neg (by omega)]), rfl⟩

theorem less_T {a b : ByteArray} (h : cmpS a b < 0) : Op.bytesLess a.toList b.toList = true := by rw [less_S]; simpa using h
theorem less_F {a b : ByteArray} (h : ¬ cmpS a b < 0) : Op.bytesLess a.toList b.toList = false := by rw [less_S]; simpa using h
theorem eq_T {a b : ByteArray} (h : cmpS a b = 0) : (a.toList == b.toList) = true := by rw [eq_S]; simpa using h
theorem eq_F {a b : ByteArray} (h : ¬ cmpS a b = 0) : (a.toList == b.toList) = false := by rw [eq_S]; simpa using h

theorem compare_string (a b : ByteArray) (w : World) : Calls Try.prog 68 #[.string a, .string b] w fun e w' => e = .returned (.int .i64 (cmpS a b)) ∧ w = w' := by
  have hr := goodS.range a b
  by_cases h1 : cmpS a b < 0
  · have l1 := less_T h1
    have f1 : cmpS a b = -1 := by omega
    have F := Lib.hid f1
    clear hr h1 f1
    go_enter Try.func68, Try.ntmps68
    go_wp2_with (go_at_call 78; refine (isNaN_string _ _).mono ?_; rintro e w' ⟨rfl, rfl⟩)
    go_ret
    exact ⟨ret_i F.out.symm, rfl⟩
  · by_cases h2 : cmpS a b = 0
    · have l1 := less_F h1
      have l2 := eq_T h2
      have F := Lib.hid h2
      clear hr h1 h2
      go_enter Try.func68, Try.ntmps68
      go_wp2_with (go_at_call 78; refine (isNaN_string _ _).mono ?_; rintro e w' ⟨rfl, rfl⟩)
      go_ret
      exact ⟨ret_i F.out.symm, rfl⟩
    · have l1 := less_F h1
      have l2 := eq_F h2
      have f1 : cmpS a b = 1 := by omega
      have F := Lib.hid f1
      clear hr h1 h2 f1
      go_enter Try.func68, Try.ntmps68
      go_wp2_with (go_at_call 78; refine (isNaN_string _ _).mono ?_; rintro e w' ⟨rfl, rfl⟩)
      go_ret
      exact ⟨ret_i F.out.symm, rfl⟩

/-! A struct result lies in a new block. -/
theorem boolean_calls (n : Int) (w : World) : Calls Try.prog 61 #[.int .i64 n] w fun e w' => e = .returned (V.val ⟨3, n, ByteArray.empty⟩) ∧ Gro w w' := by
  go_enter Try.func61, Try.ntmps61
  go_wp2
  exact bodyPost_ret (v := V.val ⟨3, n, ByteArray.empty⟩) (by simp [results, Try.results61, go_sem, V.val]; try rfl) rfl ⟨rfl, by repeat (first | exact Gro.refl _ | apply Gro.alloc | apply Gro.drew)⟩
theorem integer_calls (n : Int) (w : World) : Calls Try.prog 62 #[.int .i64 n] w fun e w' => e = .returned (V.val ⟨4, n, ByteArray.empty⟩) ∧ Gro w w' := by
  go_enter Try.func62, Try.ntmps62
  go_wp2
  exact bodyPost_ret (v := V.val ⟨4, n, ByteArray.empty⟩) (by simp [results, Try.results62, go_sem, V.val]; try rfl) rfl ⟨rfl, by repeat (first | exact Gro.refl _ | apply Gro.alloc | apply Gro.drew)⟩
theorem text_calls (s : ByteArray) (w : World) : Calls Try.prog 63 #[.string s] w fun e w' => e = .returned (V.val ⟨5, 0, s⟩) ∧ Gro w w' := by
  go_enter Try.func63, Try.ntmps63
  go_wp2
  exact bodyPost_ret (v := V.val ⟨5, 0, s⟩) (by simp [results, Try.results63, go_sem, V.val]; try rfl) rfl ⟨rfl, by repeat (first | exact Gro.refl _ | apply Gro.alloc | apply Gro.drew)⟩
end Go.Proofs.Ytmjokpakekfkfaa

/- Laws for the walk on worlds that a callee has let grow: a cell of an old block is read and written as before. -/
set_option linter.unusedSimpArgs false
set_option linter.unusedVariables false
namespace Go.Proofs.Ytmjokpakekfkfaa
open Go.RowKit

@[go_sem] theorem size_gro (w : World) (q : Nat) (os : Array Obj) : (Sort.grow (w.drewN q) os).heap.size = w.heap.size + os.size := by simp [World.drewN]
@[go_sem] theorem cell_gro (w : World) (q : Nat) (os : Array Obj) (n i : Nat) (h : n < w.heap.size) : (Sort.grow (w.drewN q) os).cell? ⟨n, i, none⟩ = w.cell? ⟨n, i, none⟩ := by
  rw [Sort.cell?_grow _ _ _ (by simpa [World.drewN] using h)]; rfl
@[go_sem] theorem frozen_gro (w : World) (q : Nat) (os : Array Obj) (n i : Nat) (h : n < w.heap.size) : (Sort.grow (w.drewN q) os).frozen? ⟨n, i, none⟩ = w.frozen? ⟨n, i, none⟩ := by
  rw [Sort.frozen?_grow _ _ _ (by simpa [World.drewN] using h)]; rfl
@[go_sem] theorem setCell_gro (w : World) (q : Nat) (os : Array Obj) (n i : Nat) (v : Value) (h : n < w.heap.size) : (Sort.grow (w.drewN q) os).setCell ⟨n, i, none⟩ v = Sort.grow ((w.setCell ⟨n, i, none⟩ v).drewN q) os := by
  simp only [World.setCell, Sort.grow, World.drewN, Sort.modify_append_left _ _ _ _ h]
@[go_sem] theorem drew_gro (w : World) (q : Nat) (os : Array Obj) : (Sort.grow (w.drewN q) os).drew = Sort.grow (w.drewN (q + 1)) os := rfl
@[go_sem] theorem gro_gro (w : World) (q q' : Nat) (os os' : Array Obj) : Sort.grow ((Sort.grow (w.drewN q) os).drewN q') os' = Sort.grow (w.drewN (q + q')) (os ++ os') := by
  simp [Sort.grow, World.drewN, Nat.add_assoc]
@[go_sem] theorem shape_gro (w : World) (q : Nat) (os : Array Obj) (n : Nat) (h : n < w.heap.size) : (Sort.grow (w.drewN q) os).shape? n = w.shape? n := by
  unfold World.shape?
  rw [Sort.heap_grow_old _ _ (by simpa [World.drewN] using h)]; rfl

theorem Gro.grown {a w : World} (h : Gro a w) (n : Nat) (os : Array Obj) : Gro a (Sort.grow (w.drewN n) os) := by
  refine h.trans ⟨⟨rfl, rfl, rfl, by simp [World.drewN], fun k hk => ?_⟩, by simp [World.drewN, Sort.grow]⟩
  simp only [Sort.grow, World.drewN]
  rw [Array.getElem?_append, if_pos hk]
theorem gro_calls {f : FuncId} {args : Array Value} {w : World} {n : Nat} {os : Array Obj} {v : Value}
    (h : Calls Try.prog f args (Sort.grow (w.drewN n) os) fun e w' => e = .returned v ∧ Gro (Sort.grow (w.drewN n) os) w') :
    Calls Try.prog f args (Sort.grow (w.drewN n) os) fun e w'' => e = .returned v ∧ ∃ p : GrownBy, w'' = Sort.grow (w.drewN p.n) p.os :=
  Calls.grown_of (h.mono fun _ _ ⟨he, hg⟩ => ⟨he, hg.grow⟩)
/-- A contract in the form that the walk takes: the world written out. -/
theorem wide {f : FuncId} {args : Array Value} {w : World} {v : Value} (h : Calls Try.prog f args w fun e w' => e = .returned v ∧ Gro w w') :
    Calls Try.prog f args w fun e w' => ∃ q os, e = .returned v ∧ w' = Sort.grow (w.drewN q) os :=
  h.mono fun _ _ ⟨he, hg⟩ => let ⟨q, os, hw⟩ := hg.grow; ⟨q, os, he, hw⟩
theorem ret_b {a b : Bool} (h : a = b) : Ending.returned (.bool a) = .returned (.bool b) := by rw [h]
theorem ret_vb {a b : V} {p q : Bool} (h : a = b) (h' : p = q) : Ending.returned (.tuple #[a.val, .bool p]) = .returned (.tuple #[b.val, .bool q]) := by rw [h, h']
theorem data_empty : (⟨#[]⟩ : ByteArray) = ByteArray.empty := rfl
theorem mixed : Try.prog.follows .mixedOrders = true := by kernel_rfl
theorem still_tail_drew {id : Nat} {Q : Exit → Act → World → Prop} {a : Act} {w : World} {l : List Oper} (n : Nat) (hm : Try.prog.follows .mixedOrders = true) (hB : Region.lexTailB .any l.toArray n = true)
    (h : wpStill Try.prog l.toArray w.drew (fun a' => wpList Try.prog l.toArray Q (l.drop n) a' w.drew) (l.take n) a) : (Code.region id l.toArray true).wp Try.prog Q a w :=
  wp_region_still_tail n hm hB h
end Go.Proofs.Ytmjokpakekfkfaa

/- The contracts of value.Valid, value.Real and their references. -/
set_option linter.unusedSimpArgs false
set_option linter.unusedVariables false
namespace Go.Proofs.Ytmjokpakekfkfaa
open Go.RowKit

/-- '==' of two values. -/
theorem eql_V (k n k' n' : Int) (t t' : ByteArray) (w : World) :
    (binOp .eql 25 (.agg #[.int .i64 k, .int .i64 n, .string t]) (.agg #[.int .i64 k', .int .i64 n', .string t'])).run Try.prog w = .ok (.bool (decide ((⟨k, n, t⟩ : V) = ⟨k', n', t'⟩))) w := by
  have hS : Try.prog.underlying 25 = some (.struct (Try.prog.fieldsOf 25)) := by kernel_rfl
  have hp : Try.prog.stoodInHeld 25 = false := by kernel_rfl
  have u3 := Try.underlying3
  have a3 := Try.isAgg3
  have z3 := Try.sizeOf3
  have u2 := Try.underlying2
  have a2 := Try.isAgg2
  have z2 := Try.sizeOf2
  have u9 := Try.underlying9
  have a9 := Try.isAgg9
  have z9 := Try.sizeOf9
  rw [run_eql_struct, show (10000 : Nat) = 9999 + 1 from rfl, run_equalIn_agg w 9999 25 _ _ hS hp]
  simp only [Program.fieldsOf, Try.underlying25]
  go_simp
  by_cases h1 : k = k' <;> by_cases h2 : n = n' <;> by_cases h3 : t = t' <;> simp [h1, h2, h3]
  exact fun h => h3 (toList_inj h)

/-- The cells of a boxed value, in every world that came of it by growth. -/
theorem box3 (w : World) (x y z : Value) (T : TypeId) (m : Nat) (os : Array Obj) :
    (Sort.grow ((w.alloc (.cells #[x, y, z] T)).drewN m) os).cell? ⟨w.heap.size, 0, none⟩ = some x ∧
    (Sort.grow ((w.alloc (.cells #[x, y, z] T)).drewN m) os).cell? ⟨w.heap.size, 1, none⟩ = some y ∧
    (Sort.grow ((w.alloc (.cells #[x, y, z] T)).drewN m) os).cell? ⟨w.heap.size, 2, none⟩ = some z :=
  ⟨cell_grown (by simp) (by go_simp) m os, cell_grown (by simp) (by go_simp) m os, cell_grown (by simp) (by go_simp) m os⟩
set_option maxHeartbeats 1000000 in
theorem valid_calls (v : V) (w : World) : Calls Try.prog 40 #[v.val] w fun e w' => e = .returned (.bool (validB v)) ∧ Gro w w' := by
  obtain ⟨k, n, t⟩ := v
  have mx := mixed
  have he := eql_V
  have c0 := fun m os => (box3 w (.int .i64 k) (.int .i64 n) (.string t) 25 m os).1
  have c1 := fun m os => (box3 w (.int .i64 k) (.int .i64 n) (.string t) 25 m os).2.1
  have c2 := fun m os => (box3 w (.int .i64 k) (.int .i64 n) (.string t) 25 m os).2.2
  by_cases h1 : k = 1
  · subst h1
    go_enter Try.func40, Try.ntmps40
    go_wp2
    go_ret
    exact ⟨ret_b (by simp [validB, validP, data_empty]), (Gro.refl _).alloc _⟩
  by_cases h2 : k = 2
  · subst h2
    go_enter Try.func40, Try.ntmps40
    go_wp2
    go_ret
    exact ⟨ret_b (by simp [validB, validP, data_empty]), (Gro.refl _).alloc _⟩
  by_cases h3 : k = 3
  · subst h3
    by_cases ht : t = ByteArray.empty
    · subst ht
      by_cases hn : n = 0
      · subst hn
        go_enter Try.func40, Try.ntmps40
        go_wp2_with fail
        go_quiet_grown (first | (go_at_call 61; refine gro_calls (boolean_calls _ _)))
        go_wp2
        go_ret
        exact ⟨ret_b (by simp [validB, validP, data_empty, *] <;> omega), ((Gro.refl _).alloc _).grown _ _⟩
      by_cases hn1 : n = 1
      · subst hn1
        go_enter Try.func40, Try.ntmps40
        go_wp2_with fail
        go_quiet_grown (first | (go_at_call 61; refine gro_calls (boolean_calls _ _)))
        go_wp2
        go_ret
        exact ⟨ret_b (by simp [validB, validP, data_empty, *] <;> omega), ((Gro.refl _).alloc _).grown _ _⟩
      go_enter Try.func40, Try.ntmps40
      go_wp2_with fail
      go_quiet_grown (first | (go_at_call 61; refine gro_calls (boolean_calls _ _)))
      go_wp2
      go_ret
      exact ⟨ret_b (by simp [validB, validP, data_empty, *] <;> omega), ((Gro.refl _).alloc _).grown _ _⟩
    go_enter Try.func40, Try.ntmps40
    go_wp2_with fail
    go_quiet_grown (first | (go_at_call 61; refine gro_calls (boolean_calls _ _)))
    go_wp2
    go_ret
    exact ⟨ret_b (by simp [validB, validP, data_empty, *] <;> omega), ((Gro.refl _).alloc _).grown _ _⟩
  by_cases h4 : k = 4
  · subst h4
    by_cases ht : t = ByteArray.empty
    · subst ht
      go_enter Try.func40, Try.ntmps40
      go_wp2_with fail
      go_quiet_grown (first | (go_at_call 62; refine gro_calls (integer_calls _ _)))
      go_wp2
      go_ret
      exact ⟨ret_b (by simp [validB, validP, data_empty, *] <;> omega), ((Gro.refl _).alloc _).grown _ _⟩
    go_enter Try.func40, Try.ntmps40
    go_wp2_with fail
    go_quiet_grown (first | (go_at_call 62; refine gro_calls (integer_calls _ _)))
    go_wp2
    go_ret
    exact ⟨ret_b (by simp [validB, validP, data_empty, *] <;> omega), ((Gro.refl _).alloc _).grown _ _⟩
  by_cases h5 : k = 5
  · subst h5
    by_cases hn : n = 0
    · subst hn
      by_cases hs : t.size ≤ 64
      · go_enter Try.func40, Try.ntmps40
        go_wp2_with fail
        go_quiet_grown (first | (go_at_call 63; refine gro_calls (text_calls _ _)))
        go_wp2
        go_ret
        exact ⟨ret_b (by simp [validB, validP, data_empty, *] <;> omega), ((Gro.refl _).alloc _).grown _ _⟩
      go_enter Try.func40, Try.ntmps40
      go_wp2_with fail
      go_quiet_grown (first | (go_at_call 63; refine gro_calls (text_calls _ _)))
      go_wp2
      go_ret
      exact ⟨ret_b (by simp [validB, validP, data_empty, *] <;> omega), ((Gro.refl _).alloc _).grown _ _⟩
    go_enter Try.func40, Try.ntmps40
    go_wp2_with fail
    go_quiet_grown (first | (go_at_call 63; refine gro_calls (text_calls _ _)))
    go_wp2
    go_ret
    exact ⟨ret_b (by simp [validB, validP, data_empty, *] <;> omega), ((Gro.refl _).alloc _).grown _ _⟩
  go_enter Try.func40, Try.ntmps40
  go_wp2
  go_ret
  exact ⟨ret_b (by simp [validB, validP, data_empty, *]), (Gro.refl _).alloc _⟩

set_option maxHeartbeats 1000000 in
theorem refValid_calls (v : V) (w : World) : Calls Try.prog 44 #[v.val] w fun e w' => e = .returned (.bool (validB v)) ∧ Gro w w' := by
  obtain ⟨k, n, t⟩ := v
  by_cases ht : t = ByteArray.empty
  · subst ht
    have e0 : ByteArray.empty.toList = [] := (empty_iff _).2 rfl
    by_cases h1 : k = 1
    · subst h1
      by_cases hn : n = 0
      · subst hn
        go_enter Try.func44, Try.ntmps44
        go_wp2
        go_ret
        exact ⟨ret_b (by simp [validB, validP, data_empty, *] <;> omega), (Gro.refl _).alloc _⟩
      go_enter Try.func44, Try.ntmps44
      go_wp2
      go_ret
      exact ⟨ret_b (by simp [validB, validP, data_empty, *] <;> omega), (Gro.refl _).alloc _⟩
    by_cases h2 : k = 2
    · subst h2
      by_cases hn : n = 0
      · subst hn
        go_enter Try.func44, Try.ntmps44
        go_wp2
        go_ret
        exact ⟨ret_b (by simp [validB, validP, data_empty, *] <;> omega), (Gro.refl _).alloc _⟩
      go_enter Try.func44, Try.ntmps44
      go_wp2
      go_ret
      exact ⟨ret_b (by simp [validB, validP, data_empty, *] <;> omega), (Gro.refl _).alloc _⟩
    by_cases h3 : k = 3
    · subst h3
      by_cases hn : n = 0
      · subst hn
        go_enter Try.func44, Try.ntmps44
        go_wp2
        go_ret
        exact ⟨ret_b (by simp [validB, validP, data_empty, *] <;> omega), (Gro.refl _).alloc _⟩
      by_cases hn1 : n = 1
      · subst hn1
        go_enter Try.func44, Try.ntmps44
        go_wp2
        go_ret
        exact ⟨ret_b (by simp [validB, validP, data_empty, *] <;> omega), (Gro.refl _).alloc _⟩
      go_enter Try.func44, Try.ntmps44
      go_wp2
      go_ret
      exact ⟨ret_b (by simp [validB, validP, data_empty, *] <;> omega), (Gro.refl _).alloc _⟩
    by_cases h4 : k = 4
    · subst h4
      go_enter Try.func44, Try.ntmps44
      go_wp2
      go_ret
      exact ⟨ret_b (by simp [validB, validP, data_empty, *] <;> omega), (Gro.refl _).alloc _⟩
    by_cases h5 : k = 5
    · subst h5
      by_cases hn : n = 0
      · subst hn
        go_enter Try.func44, Try.ntmps44
        go_wp2
        go_ret
        exact ⟨ret_b (by simp [validB, validP, data_empty, *] <;> omega), (Gro.refl _).alloc _⟩
      go_enter Try.func44, Try.ntmps44
      go_wp2
      go_ret
      exact ⟨ret_b (by simp [validB, validP, data_empty, *] <;> omega), (Gro.refl _).alloc _⟩
    go_enter Try.func44, Try.ntmps44
    go_wp2
    go_ret
    exact ⟨ret_b (by simp [validB, validP, data_empty, *] <;> omega), (Gro.refl _).alloc _⟩
  · have e0 : t.toList.isEmpty = false := by
      simp; intro h; exact ht ((empty_iff _).1 h)
    by_cases h1 : k = 1
    · subst h1
      by_cases hn : n = 0
      · subst hn
        go_enter Try.func44, Try.ntmps44
        go_wp2
        go_ret
        exact ⟨ret_b (by simp [validB, validP, data_empty, *] <;> omega), (Gro.refl _).alloc _⟩
      go_enter Try.func44, Try.ntmps44
      go_wp2
      go_ret
      exact ⟨ret_b (by simp [validB, validP, data_empty, *] <;> omega), (Gro.refl _).alloc _⟩
    by_cases h2 : k = 2
    · subst h2
      by_cases hn : n = 0
      · subst hn
        go_enter Try.func44, Try.ntmps44
        go_wp2
        go_ret
        exact ⟨ret_b (by simp [validB, validP, data_empty, *] <;> omega), (Gro.refl _).alloc _⟩
      go_enter Try.func44, Try.ntmps44
      go_wp2
      go_ret
      exact ⟨ret_b (by simp [validB, validP, data_empty, *] <;> omega), (Gro.refl _).alloc _⟩
    by_cases h3 : k = 3
    · subst h3
      by_cases hn : n = 0
      · subst hn
        go_enter Try.func44, Try.ntmps44
        go_wp2
        go_ret
        exact ⟨ret_b (by simp [validB, validP, data_empty, *] <;> omega), (Gro.refl _).alloc _⟩
      by_cases hn1 : n = 1
      · subst hn1
        go_enter Try.func44, Try.ntmps44
        go_wp2
        go_ret
        exact ⟨ret_b (by simp [validB, validP, data_empty, *] <;> omega), (Gro.refl _).alloc _⟩
      go_enter Try.func44, Try.ntmps44
      go_wp2
      go_ret
      exact ⟨ret_b (by simp [validB, validP, data_empty, *] <;> omega), (Gro.refl _).alloc _⟩
    by_cases h4 : k = 4
    · subst h4
      go_enter Try.func44, Try.ntmps44
      go_wp2
      go_ret
      exact ⟨ret_b (by simp [validB, validP, data_empty, *] <;> omega), (Gro.refl _).alloc _⟩
    by_cases h5 : k = 5
    · subst h5
      by_cases hn : n = 0
      · subst hn
        by_cases hs : t.size ≤ 64
        · go_enter Try.func44, Try.ntmps44
          go_wp2
          go_ret
          exact ⟨ret_b (by simp [validB, validP, data_empty, *] <;> omega), (Gro.refl _).alloc _⟩
        go_enter Try.func44, Try.ntmps44
        go_wp2
        go_ret
        exact ⟨ret_b (by simp [validB, validP, data_empty, *] <;> omega), (Gro.refl _).alloc _⟩
      go_enter Try.func44, Try.ntmps44
      go_wp2
      go_ret
      exact ⟨ret_b (by simp [validB, validP, data_empty, *] <;> omega), (Gro.refl _).alloc _⟩
    go_enter Try.func44, Try.ntmps44
    go_wp2
    go_ret
    exact ⟨ret_b (by simp [validB, validP, data_empty, *] <;> omega), (Gro.refl _).alloc _⟩
end Go.Proofs.Ytmjokpakekfkfaa
