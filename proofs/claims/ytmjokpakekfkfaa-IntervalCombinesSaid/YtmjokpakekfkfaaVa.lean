/- The plain mathematics of intervals: which lists are canonical, which values they contain. No program is named here. -/
import Derived.Test.YtmjokpakekfkfaaM
set_option linter.unusedSimpArgs false
set_option linter.unusedVariables false
namespace Go.Proofs.Ytmjokpakekfkfaa
open Go.RowKit

/-- An interval. -/
structure I where
  f : V
  t : V
  o : Bool
abbrev I.val (x : I) : Value := .agg #[.int .i64 x.f.k, .int .i64 x.f.n, .string x.f.t, .int .i64 x.t.k, .int .i64 x.t.n, .string x.t.t, .bool x.o]
theorem I.ext' {a b : I} (h1 : a.f = b.f) (h2 : a.t = b.t) (h3 : a.o = b.o) : a = b := by cases a; cases b; simp_all
instance : Inhabited I := ⟨⟨default, default, false⟩⟩
noncomputable instance : DecidableEq I := fun a b => if h : a.f = b.f ∧ a.t = b.t ∧ a.o = b.o then isTrue (I.ext' h.1 h.2.1 h.2.2) else isFalse fun e => h (by rw [e]; exact ⟨rfl, rfl, rfl⟩)
def zV : V := ⟨0, 0, ByteArray.empty⟩
/-- What one interval of a canonical list is. -/
noncomputable def partB (x : I) : Bool := if x.o = true then validB x.f && decide (x.t = zV) else validB x.f && validB x.t && decide (cmpV x.f x.t < 0)
def sepB (x y : I) : Bool := !x.o && decide (cmpV x.t y.f < 0)
/-- Canonical but for the length. -/
def Ord (l : List I) : Prop := ∀ i (h : i < l.length), partB l[i] = true ∧ ∀ h0 : 0 < i, sepB (l[i - 1]'(by omega)) l[i] = true
noncomputable def ordB (l : List I) : Bool := @decide (Ord l) (Classical.propDecidable _)
theorem ordB_iff {l : List I} : ordB l = true ↔ Ord l := by unfold ordB; simp
theorem ordB_no {l : List I} (h : ¬ Ord l) : ordB l = false := by unfold ordB; simp [h]
noncomputable def canonB (l : List I) : Bool := decide (l.length ≤ 64) && ordB l
/-- v lies in x. -/
def inI (x : I) (v : V) : Bool := decide (cmpV x.f v ≤ 0) && (x.o || decide (cmpV v x.t < 0))
def inB (l : List I) (v : V) : Bool := l.any (fun x => inI x v)
noncomputable def hasB (l : List I) (v : V) : Bool := validB v && canonB l && inB l v
theorem inB_iff {l : List I} {v : V} : inB l v = true ↔ ∃ x ∈ l, inI x v = true := by unfold inB; simp
theorem inI_iff {x : I} {v : V} : inI x v = true ↔ cmpV x.f v ≤ 0 ∧ (x.o = true ∨ cmpV v x.t < 0) := by unfold inI; simp
theorem partB_open {x : I} (h : partB x = true) (ho : x.o = true) : validB x.f = true ∧ x.t = zV := by
  unfold partB at h; rw [if_pos ho] at h; simpa using h
theorem partB_closed {x : I} (h : partB x = true) (ho : x.o = false) : validB x.f = true ∧ validB x.t = true ∧ cmpV x.f x.t < 0 := by
  unfold partB at h; rw [if_neg (by simp [ho])] at h; simp at h; exact ⟨h.1.1, h.1.2, h.2⟩
theorem partB_from {x : I} (h : partB x = true) : validB x.f = true := by
  cases ho : x.o
  · exact (partB_closed h ho).1
  · exact (partB_open h ho).1
theorem sepB_iff {x y : I} : sepB x y = true ↔ x.o = false ∧ cmpV x.t y.f < 0 := by unfold sepB; simp

/-! ### lists by their heads -/
/-- Canonical behind a bound: the first interval begins above b. -/
inductive OrdL : List I → Prop
  | nil : OrdL []
  | one {x : I} : partB x = true → OrdL [x]
  | cons {x y : I} {l : List I} : partB x = true → sepB x y = true → OrdL (y :: l) → OrdL (x :: y :: l)
theorem ord_cons {x : I} {l : List I} (h : Ord (x :: l)) : Ord l := by
  intro i hi
  obtain ⟨h1, h2⟩ := h (i + 1) (by simp; omega)
  refine ⟨by simpa using h1, fun h0 => ?_⟩
  have h3 := h2 (by omega)
  obtain ⟨j, rfl⟩ : ∃ j, i = j + 1 := ⟨i - 1, by omega⟩
  simpa using h3
theorem ord_iff {l : List I} : Ord l ↔ OrdL l := by
  constructor
  · intro h
    induction l with
    | nil => exact .nil
    | cons x l ih =>
      have hl := ih (ord_cons h)
      cases l with
      | nil => exact .one (h 0 (by simp)).1
      | cons y l => exact .cons (h 0 (by simp)).1 (by have := (h 1 (by simp)).2 (by omega); simpa using this) hl
  · intro h
    induction h with
    | nil => intro i hi; simp at hi
    | one hx => intro i hi; simp at hi; subst hi; exact ⟨hx, fun h0 => by omega⟩
    | cons hx hs _ ih =>
      intro i hi
      rcases i with _ | i
      · exact ⟨hx, fun h0 => by omega⟩
      · obtain ⟨h1, h2⟩ := ih i (by simp at hi ⊢; omega)
        refine ⟨by simpa using h1, fun h0 => ?_⟩
        rcases i with _ | i
        · simpa using hs
        · simpa using h2 (by omega)
theorem OrdL.tail {x : I} {l : List I} (h : OrdL (x :: l)) : OrdL l := by cases h <;> first | exact .nil | assumption
theorem OrdL.head {x : I} {l : List I} (h : OrdL (x :: l)) : partB x = true := by cases h <;> assumption
/-- All begins lie at or above the first one; all but it above its end. -/
theorem OrdL.above {x : I} {l : List I} (h : OrdL (x :: l)) : ∀ y ∈ l, x.o = false ∧ cmpV x.t y.f < 0 := by
  induction l generalizing x with
  | nil => intro y hy; simp at hy
  | cons z l ih =>
    cases h with
    | cons hx hs hl =>
      obtain ⟨s1, s2⟩ := sepB_iff.1 hs
      intro y hy
      rcases List.mem_cons.1 hy with rfl | hy
      · exact ⟨s1, s2⟩
      · obtain ⟨z1, z2⟩ := ih hl y hy
        have hz := (partB_closed hl.head z1).2.2
        refine ⟨s1, ?_⟩
        have := goodV.lt_le (goodV.lt_le s2 (by omega : cmpV z.f z.t ≤ 0)) (by omega : cmpV z.t y.f ≤ 0)
        exact this
theorem OrdL.begin_le {x : I} {l : List I} (h : OrdL (x :: l)) : ∀ y ∈ x :: l, cmpV x.f y.f ≤ 0 := by
  intro y hy
  rcases List.mem_cons.1 hy with rfl | hy
  · rw [goodV.self]; omega
  · obtain ⟨h1, h2⟩ := h.above y hy
    have := (partB_closed h.head h1).2.2
    have := goodV.lt_le this (by omega : cmpV x.t y.f ≤ 0)
    omega
theorem head_in {x : I} {l : List I} (h : OrdL (x :: l)) : inB (x :: l) x.f = true := by
  refine inB_iff.2 ⟨x, by simp, inI_iff.2 ⟨by rw [goodV.self]; omega, ?_⟩⟩
  cases ho : x.o
  · right; exact (partB_closed h.head ho).2.2
  · left; rfl
theorem in_ge {x : I} {l : List I} (h : OrdL (x :: l)) {v : V} (hv : inB (x :: l) v = true) : cmpV x.f v ≤ 0 := by
  obtain ⟨y, hy, hv⟩ := inB_iff.1 hv
  exact goodV.trans _ _ _ (h.begin_le y hy) (inI_iff.1 hv).1
theorem zero_invalid : validB zV = false := by decide +kernel
/-- Two canonical lists that contain the same valid values are equal. -/
theorem OrdL.unique : ∀ {l m : List I}, OrdL l → OrdL m → (∀ v, validB v = true → inB l v = inB m v) → l = m := by
  intro l
  induction l with
  | nil =>
    intro m hl hm h
    cases m with
    | nil => rfl
    | cons y m =>
      have := h y.f (partB_from hm.head)
      rw [head_in hm] at this
      simp [inB] at this
  | cons x l ih =>
    intro m hl hm h
    cases m with
    | nil =>
      have := h x.f (partB_from hl.head)
      rw [head_in hl] at this
      simp [inB] at this
    | cons y m =>
      have e1 : cmpV y.f x.f ≤ 0 := in_ge hm (by rw [← h x.f (partB_from hl.head)]; exact head_in hl)
      have e2 : cmpV x.f y.f ≤ 0 := in_ge hl (by rw [h y.f (partB_from hm.head)]; exact head_in hm)
      have ef : x.f = y.f := (goodV.zero _ _).1 (by have := goodV.neg x.f y.f; omega)
      -- a value at the end of a closed head is not in the list
      have out : ∀ {z : I} {k : List I}, OrdL (z :: k) → z.o = false → inB (z :: k) z.t = false := by
        intro z k hz ho
        rw [Bool.eq_false_iff]
        intro hc
        obtain ⟨u, hu, hv⟩ := inB_iff.1 hc
        rcases List.mem_cons.1 hu with rfl | hu
        · have := (inI_iff.1 hv).2
          rw [ho] at this
          simp [goodV.self] at this
        · have h1 := (hz.above u hu).2
          have h2 := (inI_iff.1 hv).1
          have := goodV.lt_le h1 h2
          rw [goodV.self] at this
          omega
      have inn : ∀ {z : I} {k : List I} {v : V}, cmpV z.f v ≤ 0 → (z.o = true ∨ cmpV v z.t < 0) → inB (z :: k) v = true := fun a b => inB_iff.2 ⟨_, by simp, inI_iff.2 ⟨a, b⟩⟩
      have hend : x.o = y.o ∧ x.t = y.t := by
        cases hx : x.o <;> cases hy : y.o
        · refine ⟨rfl, ?_⟩
          obtain ⟨x1, x2, x3⟩ := partB_closed hl.head hx
          obtain ⟨y1, y2, y3⟩ := partB_closed hm.head hy
          have hr := goodV.range x.t y.t
          have hn := goodV.neg x.t y.t
          by_cases c1 : cmpV x.t y.t < 0
          · have a1 := out hl hx
            rw [h x.t x2, inn (by rw [← ef]; omega) (.inr c1)] at a1
            cases a1
          · by_cases c2 : cmpV y.t x.t < 0
            · have a1 := out hm hy
              rw [← h y.t y2, inn (by rw [ef]; omega) (.inr c2)] at a1
              cases a1
            · exact (goodV.zero _ _).1 (by omega)
        · exfalso
          obtain ⟨x1, x2, x3⟩ := partB_closed hl.head hx
          have a1 := out hl hx
          rw [h x.t x2, inn (by rw [← ef]; omega) (.inl hy)] at a1
          cases a1
        · exfalso
          obtain ⟨y1, y2, y3⟩ := partB_closed hm.head hy
          have a1 := out hm hy
          rw [← h y.t y2, inn (by rw [ef]; omega) (.inl hx)] at a1
          cases a1
        · exact ⟨rfl, by rw [(partB_open hl.head hx).2, (partB_open hm.head hy).2]⟩
      have exy : x = y := I.ext' ef hend.2 hend.1
      subst exy
      congr 1
      refine ih hl.tail hm.tail fun v hv => ?_
      have hh := h v hv
      have key : ∀ {k : List I}, OrdL (x :: k) → inB k v = (inB (x :: k) v && !inI x v) := by
        intro k hk
        rw [Bool.eq_iff_iff]
        simp only [Bool.and_eq_true, Bool.not_eq_true']
        constructor
        · intro hin
          refine ⟨?_, ?_⟩
          · obtain ⟨u, hu, hv'⟩ := inB_iff.1 hin
            exact inB_iff.2 ⟨u, by simp [hu], hv'⟩
          · rw [Bool.eq_false_iff]
            intro hx
            obtain ⟨u, hu, hv'⟩ := inB_iff.1 hin
            obtain ⟨a1, a2⟩ := hk.above u hu
            have := (inI_iff.1 hx).2
            rw [a1] at this
            simp at this
            have b1 := (inI_iff.1 hv').1
            have b2 := goodV.lt_le a2 b1
            have b3 := goodV.neg x.t v
            omega
        · rintro ⟨hin, hx⟩
          obtain ⟨u, hu, hv'⟩ := inB_iff.1 hin
          rcases List.mem_cons.1 hu with rfl | hu
          · rw [hv'] at hx; cases hx
          · exact inB_iff.2 ⟨u, hu, hv'⟩
      rw [key hl, key hm, hh]
end Go.Proofs.Ytmjokpakekfkfaa
