/- The plain mathematics of merging: the edges of a list, and which values lie behind an odd number of them. -/
import Derived.Test.YtmjokpakekfkfaaVa
set_option linter.unusedSimpArgs false
set_option linter.unusedVariables false
namespace Go.Proofs.Ytmjokpakekfkfaa
open Go.RowKit

/-- How many edges stand at v or below. -/
def cnt (E : List V) (v : V) : Nat := (E.filter (fun e => decide (cmpV e v ≤ 0))).length
def par (E : List V) (v : V) : Bool := decide (cnt E v % 2 = 1)
def oddB (n : Nat) : Bool := decide (n % 2 = 1)
def AscV (E : List V) : Prop := E.Pairwise (fun a b => cmpV a b < 0)
theorem cnt_nil (v : V) : cnt [] v = 0 := rfl
theorem cnt_cons (e : V) (E : List V) (v : V) : cnt (e :: E) v = (if cmpV e v ≤ 0 then 1 else 0) + cnt E v := by
  unfold cnt
  by_cases h : cmpV e v ≤ 0
  · simp [List.filter_cons, h]; omega
  · simp [List.filter_cons, h]
theorem cnt_append (E F : List V) (v : V) : cnt (E ++ F) v = cnt E v + cnt F v := by unfold cnt; simp
theorem cnt_none {E : List V} {v : V} (h : ∀ e ∈ E, cmpV v e < 0) : cnt E v = 0 := by
  induction E with
  | nil => rfl
  | cons e E ih =>
    rw [cnt_cons, ih (fun x hx => h x (by simp [hx]))]
    have := h e (by simp)
    have := goodV.neg e v
    rw [if_neg (by omega)]
theorem cnt_all {E : List V} {v : V} (h : ∀ e ∈ E, cmpV e v ≤ 0) : cnt E v = E.length := by
  induction E with
  | nil => rfl
  | cons e E ih =>
    rw [cnt_cons, ih (fun x hx => h x (by simp [hx])), if_pos (h e (by simp))]
    simp; omega
theorem par_all {E : List V} {v : V} (h : ∀ e ∈ E, cmpV e v ≤ 0) : par E v = oddB E.length := by unfold par oddB; rw [cnt_all h]
theorem par_nil (v : V) : par [] v = false := rfl
theorem par_snoc_lt {E : List V} {p v : V} (h : cmpV v p < 0) : par (E ++ [p]) v = par E v := by
  unfold par
  rw [cnt_append, cnt_none (E := [p]) (by simpa using h)]
  rfl

/-- Where the intervals begin and end. -/
def edges : List I → List V
  | [] => []
  | x :: l => if x.o = true then x.f :: edges l else x.f :: x.t :: edges l
theorem edges_len (l : List I) : (edges l).length ≤ 2 * l.length := by
  induction l with
  | nil => simp [edges]
  | cons x l ih => simp only [edges]; split <;> (simp; omega)
theorem edges_snoc (l : List I) (x : I) : edges (l ++ [x]) = edges l ++ edges [x] := by
  induction l with
  | nil => simp [edges]
  | cons y l ih => simp only [List.cons_append, edges, ih]; split <;> simp
theorem mem_edges {l : List I} {e : V} : e ∈ edges l ↔ ∃ x ∈ l, e = x.f ∨ (x.o = false ∧ e = x.t) := by
  induction l with
  | nil => simp [edges]
  | cons y l ih =>
    simp only [edges]
    cases ho : y.o
    · simp [ih, ho]
      constructor
      · rintro (h | h | h)
        · exact .inl (.inl h)
        · exact .inl (.inr h)
        · exact .inr h
      · rintro ((h | h) | h)
        · exact .inl h
        · exact .inr (.inl h)
        · exact .inr (.inr h)
    · simp [ih, ho]
theorem edges_above {x : I} {l : List I} (h : OrdL (x :: l)) (ho : x.o = false) : ∀ e ∈ edges l, cmpV x.t e < 0 := by
  intro e he
  obtain ⟨y, hy, hh⟩ := mem_edges.1 he
  obtain ⟨-, h2⟩ := h.above y hy
  rcases hh with rfl | ⟨h3, rfl⟩
  · exact h2
  · have hp : partB y = true := by
      have := ord_iff.2 h
      obtain ⟨i, hi, rfl⟩ := List.mem_iff_getElem.1 (List.mem_cons_of_mem x hy)
      exact (this i hi).1
    exact goodV.lt_le h2 (by have := (partB_closed hp h3).2.2; omega)
theorem ord_part {l : List I} (h : OrdL l) {y : I} (hy : y ∈ l) : partB y = true := by
  obtain ⟨i, hi, rfl⟩ := List.mem_iff_getElem.1 hy
  exact ((ord_iff.2 h) i hi).1
theorem open_last {x : I} {l : List I} (h : OrdL (x :: l)) (ho : x.o = true) : l = [] := by
  cases l with
  | nil => rfl
  | cons y l => have := (h.above y (by simp)).1; rw [ho] at this; cases this
theorem edges_ok {l : List I} (h : OrdL l) : AscV (edges l) ∧ (∀ e ∈ edges l, validB e = true) ∧ ∀ v, par (edges l) v = inB l v := by
  refine ⟨?_, ?_, ?_⟩
  · induction l with
    | nil => exact List.Pairwise.nil
    | cons x l ih =>
      have hl := ih h.tail
      cases ho : x.o
      · have he : edges (x :: l) = x.f :: x.t :: edges l := by simp [edges, ho]
        rw [he]
        have hp := (partB_closed h.head ho).2.2
        refine List.pairwise_cons.2 ⟨fun e hm => ?_, List.pairwise_cons.2 ⟨edges_above h ho, hl⟩⟩
        rcases List.mem_cons.1 hm with rfl | hm
        · exact hp
        · exact goodV.lt_le hp (by have := edges_above h ho e hm; omega)
      · have hn := open_last h ho
        subst hn
        have he : edges [x] = [x.f] := by simp [edges, ho]
        rw [he]; exact List.pairwise_singleton _ _
  · intro e he
    obtain ⟨y, hy, hh⟩ := mem_edges.1 he
    have hp := ord_part h hy
    rcases hh with rfl | ⟨h3, rfl⟩
    · exact partB_from hp
    · exact (partB_closed hp h3).2.1
  · intro v
    induction l with
    | nil => rfl
    | cons x l ih =>
      have hl := ih h.tail
      have hin : inB (x :: l) v = (inI x v || inB l v) := by simp [inB]
      rw [hin]
      have hneg := goodV.neg x.f v
      have hnegt := goodV.neg x.t v
      cases ho : x.o
      · have he : edges (x :: l) = x.f :: x.t :: edges l := by simp [edges, ho]
        obtain ⟨-, -, hp⟩ := partB_closed h.head ho
        have hab := edges_above h ho
        have hi : inI x v = (decide (cmpV x.f v ≤ 0) && decide (cmpV v x.t < 0)) := by simp [inI, ho]
        rw [hi, ← hl]
        unfold par
        rw [he, cnt_cons, cnt_cons]
        by_cases c2 : cmpV x.t v ≤ 0
        · have c1 : cmpV x.f v ≤ 0 := goodV.trans _ _ _ (by omega : cmpV x.f x.t ≤ 0) c2
          have c3 : ¬ cmpV v x.t < 0 := by omega
          rw [if_pos c1, if_pos c2]
          simp [c1, c3]
          omega
        · have hz : cnt (edges l) v = 0 := cnt_none fun e hm => goodV.lt_le (by omega : cmpV v x.t < 0) (by have := hab e hm; omega)
          have c3 : cmpV v x.t < 0 := by omega
          rw [if_neg c2, hz]
          by_cases c1 : cmpV x.f v ≤ 0
          · simp [c1, c3]
          · simp [c1]
      · have hn := open_last h ho
        subst hn
        have he : edges [x] = [x.f] := by simp [edges, ho]
        have hi : inI x v = decide (cmpV x.f v ≤ 0) := by simp [inI, ho]
        rw [hi, he]
        unfold par
        rw [cnt_cons, cnt_nil]
        by_cases c1 : cmpV x.f v ≤ 0 <;> simp [c1, inB]

/-- The intervals between the edges. -/
def ivs : List V → List I
  | a :: b :: E => ⟨a, b, false⟩ :: ivs E
  | [a] => [⟨a, zV, true⟩]
  | [] => []
theorem ivs_edges : ∀ E : List V, edges (ivs E) = E
  | a :: b :: E => by simp [ivs, edges, ivs_edges E]
  | [a] => by simp [ivs, edges]
  | [] => rfl
theorem ivs_ord : ∀ E : List V, AscV E → (∀ e ∈ E, validB e = true) → OrdL (ivs E)
  | a :: b :: E => fun h hv => by
      obtain ⟨h1, h2⟩ := List.pairwise_cons.1 h
      obtain ⟨h3, h4⟩ := List.pairwise_cons.1 h2
      have ih := ivs_ord E h4 (fun e he => hv e (by simp [he]))
      have hp : partB ⟨a, b, false⟩ = true := by
        unfold partB
        simp [hv a (by simp), hv b (by simp), h1 b (by simp)]
      simp only [ivs]
      match E, ih, h3 with
      | [], ih, h3 => exact .one hp
      | [c], ih, h3 => exact .cons hp (sepB_iff.2 ⟨rfl, h3 c (by simp)⟩) ih
      | c :: d :: F, ih, h3 => exact .cons hp (sepB_iff.2 ⟨rfl, h3 c (by simp)⟩) ih
  | [a] => fun _ hv => .one (by unfold partB; simp [hv a (by simp)])
  | [] => fun _ _ => .nil
theorem ivs_in {E : List V} (h : AscV E) (hv : ∀ e ∈ E, validB e = true) (v : V) : inB (ivs E) v = par E v := by
  rw [← (edges_ok (ivs_ord E h hv)).2.2 v, ivs_edges]
theorem ivs_len : ∀ E : List V, (ivs E).length = (E.length + 1) / 2
  | a :: b :: E => by simp [ivs, ivs_len E]; omega
  | [a] => by simp [ivs]
  | [] => rfl

/-! ### one step of the merging -/
/-- A list of passed edges goes on by p, or stays. -/
def Grew (T T' : List V) (p : V) : Prop := T' = T ∨ T' = T ++ [p]
theorem Grew.lt {T T' : List V} {p v : V} (h : Grew T T' p) (hv : cmpV v p < 0) : par T' v = par T v := by
  rcases h with rfl | rfl
  · rfl
  · exact par_snoc_lt hv
theorem Grew.ge {T T' : List V} {p v : V} (h : Grew T T' p) (hT : ∀ e ∈ T, cmpV e p < 0) (hv : cmpV p v ≤ 0) : par T' v = oddB T'.length := by
  refine par_all fun e he => ?_
  have hh : e ∈ T ∨ e = p := by
    rcases h with rfl | rfl
    · exact .inl he
    · simpa using he
  rcases hh with h1 | rfl
  · have := goodV.lt_le (hT e h1) hv; omega
  · exact hv
/-- What is chosen. -/
def flips (op : Bool → Bool → Bool) (a b : Bool) (out : List V) (p : V) : List V := if op a b != oddB out.length then out ++ [p] else out
theorem flips_par {op : Bool → Bool → Bool} {TA TA' TB TB' out : List V} {p : V} (hA : Grew TA TA' p) (hB : Grew TB TB' p) (lA : ∀ e ∈ TA, cmpV e p < 0) (lB : ∀ e ∈ TB, cmpV e p < 0)
    (ho : ∀ e ∈ out, e ∈ TA ∨ e ∈ TB) (h : ∀ v, par out v = op (par TA v) (par TB v)) : ∀ v, par (flips op (oddB TA'.length) (oddB TB'.length) out p) v = op (par TA' v) (par TB' v) := by
  intro v
  have lo : ∀ e ∈ out, cmpV e p < 0 := fun e he => (ho e he).elim (lA e) (lB e)
  by_cases hv : cmpV v p < 0
  · rw [hA.lt hv, hB.lt hv, ← h v]
    unfold flips
    split
    · exact par_snoc_lt hv
    · rfl
  · have hv' : cmpV p v ≤ 0 := by have := goodV.neg p v; omega
    rw [hA.ge lA hv', hB.ge lB hv']
    have hg : Grew out (flips op (oddB TA'.length) (oddB TB'.length) out p) p := by
      unfold flips
      split
      · exact .inr rfl
      · exact .inl rfl
    rw [hg.ge lo hv']
    unfold flips
    generalize op (oddB TA'.length) (oddB TB'.length) = q
    have hodd : oddB (out ++ [p]).length = !oddB out.length := by
      unfold oddB; simp
      by_cases h1 : out.length % 2 = 1
      · simp [h1]; omega
      · simp [h1]; omega
    cases hq : q <;> cases hb : oddB out.length <;> simp_all
theorem flips_asc {op : Bool → Bool → Bool} {a b : Bool} {out : List V} {p : V} (h : AscV out) (hl : ∀ e ∈ out, cmpV e p < 0) : AscV (flips op a b out p) := by
  unfold flips
  split
  · exact List.pairwise_append.2 ⟨h, List.pairwise_singleton _ _, fun e he q hq => by rw [List.mem_singleton] at hq; subst hq; exact hl e he⟩
  · exact h
theorem flips_mem {op : Bool → Bool → Bool} {a b : Bool} {out : List V} {p e : V} (h : e ∈ flips op a b out p) : e ∈ out ∨ e = p := by
  unfold flips at h
  split at h
  · simpa using h
  · exact .inl h
theorem flips_len {op : Bool → Bool → Bool} {a b : Bool} {out : List V} {p : V} : (flips op a b out p).length ≤ out.length + 1 := by
  unfold flips
  split <;> simp
end Go.Proofs.Ytmjokpakekfkfaa
