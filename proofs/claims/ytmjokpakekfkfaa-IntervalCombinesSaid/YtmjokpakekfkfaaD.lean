/- Plain mathematics of relations: sorted lists of rows, the list without repetitions, and that there is only one strictly ascending list of given members. -/
import Derived.Test.YtmjokpakekfkfaaM
set_option linter.unusedSimpArgs false
set_option linter.unusedVariables false
namespace Go.Proofs.Ytmjokpakekfkfaa
open Go.RowKit

/-- Strictly ascending. -/
def Asc (l : List (List V)) : Prop := l.Pairwise (fun a b => cmpR a b < 0)
/-- Ascending, by places. -/
def Srt (l : List (List V)) : Prop := ∀ i j (hi : i < l.length) (hj : j < l.length), i < j → cmpR l[i] l[j] ≤ 0

theorem asc_irr {a : List V} (h : cmpR a a < 0) : False := by rw [goodR.self] at h; omega
theorem Asc.unique {l m : List (List V)} (hl : Asc l) (hm : Asc m) (h : ∀ r, r ∈ l ↔ r ∈ m) : l = m := by
  induction l generalizing m with
  | nil =>
    cases m with
    | nil => rfl
    | cons y m => exact absurd ((h y).2 (by simp)) (by simp)
  | cons x l ih =>
    cases m with
    | nil => exact absurd ((h x).1 (by simp)) (by simp)
    | cons y m =>
      have hx := List.pairwise_cons.1 hl
      have hy := List.pairwise_cons.1 hm
      have hxy : x = y := by
        have h1 := (h x).1 (by simp)
        have h2 := (h y).2 (by simp)
        rcases List.mem_cons.1 h1 with e | e
        · exact e
        · rcases List.mem_cons.1 h2 with e' | e'
          · exact e'.symm
          · exact (asc_irr (goodR.lt_le (hx.1 y e') (Int.le_of_lt (hy.1 x e)))).elim
      subst hxy
      congr 1
      refine ih hx.2 hy.2 fun r => ?_
      have := h r
      simp only [List.mem_cons] at this
      constructor
      · intro hr
        rcases this.1 (Or.inr hr) with e | e
        · subst e; exact (asc_irr (hx.1 r hr)).elim
        · exact e
      · intro hr
        rcases this.2 (Or.inr hr) with e | e
        · subst e; exact (asc_irr (hy.1 r hr)).elim
        · exact e

/-- The first k rows without repetitions of neighbours. -/
def dd (s : List (List V)) : Nat → List (List V)
  | 0 => []
  | k + 1 => if k = 0 ∨ cmpR (s.getD (k - 1) []) (s.getD k []) ≠ 0 then dd s k ++ [s.getD k []] else dd s k
theorem dd_first (s : List (List V)) : dd s 1 = [s.getD 0 []] := by simp [dd]
theorem dd_new {s : List (List V)} {k : Nat} (h : cmpR (s.getD (k - 1) []) (s.getD k []) ≠ 0) : dd s (k + 1) = dd s k ++ [s.getD k []] := by
  simp only [dd]
  rw [if_pos (Or.inr h)]
theorem dd_old {s : List (List V)} {k : Nat} (h0 : k ≠ 0) (h : cmpR (s.getD (k - 1) []) (s.getD k []) = 0) : dd s (k + 1) = dd s k := by
  simp only [dd]
  rw [if_neg]
  rintro (e | e)
  · exact h0 e
  · exact e h
theorem dd_length (s : List (List V)) (k : Nat) : (dd s k).length ≤ k := by
  induction k with
  | zero => simp [dd]
  | succ k ih =>
    simp only [dd]
    split
    · simp; omega
    · omega
theorem dd_holds (s : List (List V)) (hs : Srt s) (k : Nat) (hk : k ≤ s.length) :
    Asc (dd s k) ∧ (∀ r, r ∈ dd s k ↔ r ∈ s.take k) ∧ (k ≠ 0 → (dd s k).getLast? = some (s.getD (k - 1) []) ∧ ∀ r ∈ dd s k, cmpR r (s.getD (k - 1) []) ≤ 0) := by
  induction k with
  | zero => exact ⟨List.Pairwise.nil, by simp [dd], fun h => absurd rfl h⟩
  | succ k ih =>
    obtain ⟨ha, hm, hl⟩ := ih (by omega)
    have hg : s.getD k [] = s[k] := by rw [List.getD_eq_getElem?_getD, List.getElem?_eq_getElem hk]; rfl
    have htk : s.take (k + 1) = s.take k ++ [s.getD k []] := by rw [List.take_succ_eq_append_getElem hk, hg]
    by_cases h0 : k = 0
    · subst h0
      rw [dd_first]
      refine ⟨List.pairwise_singleton _ _, fun r => by rw [htk]; simp, fun _ => ⟨by simp, fun r hr => ?_⟩⟩
      simp at hr
      subst hr
      simp [goodR.self]
    · obtain ⟨hlast, hle⟩ := hl h0
      have hg' : s.getD (k - 1) [] = s[k - 1] := by rw [List.getD_eq_getElem?_getD, List.getElem?_eq_getElem (by omega)]; rfl
      have hstep : cmpR (s.getD (k - 1) []) (s.getD k []) ≤ 0 := by rw [hg, hg']; exact hs (k - 1) k (by omega) hk (by omega)
      by_cases e : cmpR (s.getD (k - 1) []) (s.getD k []) = 0
      · rw [dd_old h0 e]
        have hx := (goodR.zero _ _).1 e
        refine ⟨ha, fun r => ?_, fun _ => ?_⟩
        · rw [htk, List.mem_append, ← hm r]
          constructor
          · exact Or.inl
          · rintro (h | h)
            · exact h
            · simp at h
              rw [h, ← List.getD_eq_getElem?_getD, ← hx]
              exact List.mem_of_getLast? hlast
        · simp only [Nat.add_sub_cancel]
          rw [← hx]
          exact ⟨hlast, hle⟩
      · rw [dd_new e]
        refine ⟨?_, fun r => ?_, fun _ => ⟨by simp, fun r hr => ?_⟩⟩
        · refine List.pairwise_append.2 ⟨ha, List.pairwise_singleton _ _, fun a h1 b h2 => ?_⟩
          simp only [List.mem_singleton] at h2
          subst h2
          exact goodR.le_lt (hle a h1) (by omega)
        · rw [htk, List.mem_append, List.mem_append, hm r]
        · simp only [Nat.add_sub_cancel]
          rcases List.mem_append.1 hr with h | h
          · exact goodR.trans _ _ _ (hle r h) hstep
          · simp only [List.mem_singleton] at h
            rw [h, goodR.self]
            omega

/-- The relation of the rows. -/
def SetOf (rows out : List (List V)) : Prop := Asc out ∧ ∀ r, r ∈ out ↔ r ∈ rows
theorem SetOf.unique {rows rows' out out' : List (List V)} (h : SetOf rows out) (h' : SetOf rows' out') (hm : ∀ r, r ∈ rows ↔ r ∈ rows') : out = out' :=
  Asc.unique h.1 h'.1 fun r => (h.2 r).trans ((hm r).trans (h'.2 r).symm)
theorem setOf_dd {rows s : List (List V)} (hs : Srt s) (hm : ∀ r, r ∈ s ↔ r ∈ rows) : SetOf rows (dd s s.length) := by
  obtain ⟨h1, h2, _⟩ := dd_holds s hs s.length (Nat.le_refl _)
  exact ⟨h1, fun r => by rw [h2 r, List.take_length, hm r]⟩
end Go.Proofs.Ytmjokpakekfkfaa
