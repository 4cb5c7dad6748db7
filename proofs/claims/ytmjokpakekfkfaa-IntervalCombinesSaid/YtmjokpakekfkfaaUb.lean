/- How long the result of an operation is: at most as long as both lists. -/
import Derived.Test.YtmjokpakekfkfaaVz
set_option linter.unusedSimpArgs false
set_option linter.unusedVariables false
namespace Go.Proofs.Ytmjokpakekfkfaa
open Go.RowKit

theorem pts_insert (x : V) : ∀ P : List V, AscV P → ∃ Q, AscV Q ∧ ∀ y, y ∈ Q ↔ y = x ∨ y ∈ P
  | [], _ => ⟨[x], List.pairwise_singleton _ _, fun y => by simp⟩
  | p :: P, h => by
    obtain ⟨h1, h2⟩ := List.pairwise_cons.1 h
    rcases goodV.range x p with hc | hc | hc
    · exact ⟨x :: p :: P, List.pairwise_cons.2 ⟨fun y hy => by
        rcases List.mem_cons.1 hy with rfl | hy
        · omega
        · exact goodV.lt_le (by omega : cmpV x p < 0) (by have := h1 y hy; omega), h⟩, fun y => by simp⟩
    · obtain rfl := (goodV.zero x p).1 hc
      exact ⟨x :: P, h, fun y => by simp⟩
    · obtain ⟨Q, hq, hm⟩ := pts_insert x P h2
      refine ⟨p :: Q, List.pairwise_cons.2 ⟨fun y hy => ?_, hq⟩, fun y => ?_⟩
      · rcases (hm y).1 hy with rfl | hy
        · have := goodV.neg y p; omega
        · exact h1 y hy
      · rw [List.mem_cons, hm y, List.mem_cons]
        constructor
        · rintro (h | h | h)
          · exact .inr (.inl h)
          · exact .inl h
          · exact .inr (.inr h)
        · rintro (h | h | h)
          · exact .inr (.inl h)
          · exact .inl h
          · exact .inr (.inr h)
theorem pts_exist : ∀ E : List V, ∃ P, PtsOf E P
  | [] => ⟨[], .nil, fun x => Iff.rfl⟩
  | x :: E => by
    obtain ⟨P, h1, h2⟩ := pts_exist E
    obtain ⟨Q, q1, q2⟩ := pts_insert x P h1
    exact ⟨Q, q1, fun y => by rw [q2 y, h2 y, List.mem_cons]⟩
theorem edges_of_in {l : List I} {P : List V} (h : EdgesIn l P) : ∀ e ∈ edges l, e ∈ P := fun e he => by
  obtain ⟨x, hx, h1⟩ := mem_edges.1 he
  rcases h1 with rfl | ⟨ho, rfl⟩
  · exact (h x hx).1
  · exact (h x hx).2 ho
theorem nxt_edges {P : List V} {k : Nat} (hk : k < P.length) : (nxtI P k).f ∈ P ∧ ((nxtI P k).o = false → (nxtI P k).t ∈ P) := by
  by_cases hl : k + 1 = P.length
  · rw [nxt_last hk hl]; exact ⟨List.getElem_mem hk, fun h => by cases h⟩
  · have hl' : k + 1 < P.length := by omega
    rw [nxt_mid hl']; exact ⟨List.getElem_mem hk, fun _ => List.getElem_mem hl'⟩
theorem join_edges {L : List I} {P : List V} {x : I} (h : EdgesIn L P) (hx : x.f ∈ P ∧ (x.o = false → x.t ∈ P)) : EdgesIn (joinL L x) P := by
  rcases List.eq_nil_or_concat L with rfl | ⟨A, y, rfl⟩
  · intro z hz; rw [joinL_nil] at hz; simp at hz; subst hz; exact hx
  · rw [List.concat_eq_append] at *
    by_cases hc : y.o = false ∧ cmpV y.t x.f = 0
    · rw [joinL_old hc]
      intro z hz
      rcases List.mem_append.1 hz with hz | hz
      · exact h z (List.mem_append_left _ hz)
      · simp at hz; subst hz; exact ⟨(h y (by simp)).1, hx.2⟩
    · rw [joinL_new hc]
      intro z hz
      rcases List.mem_append.1 hz with hz | hz
      · exact h z hz
      · simp at hz; subst hz; exact hx
theorem out_all {f : Bool → Bool → Bool} {a b : List I} {P : List V} (hff : f false false = false) (h : AscV P) (hv : ∀ x ∈ P, validB x = true) (ha : EdgesIn a P) (hb : EdgesIn b P) :
    ∀ k, k ≤ P.length → CInv f a b P k (outL f a b P k) ∧ EdgesIn (outL f a b P k) P
  | 0, _ => ⟨cinv_zero hff h ha hb, fun x hx => by simp [outL] at hx⟩
  | k + 1, hk => by
    obtain ⟨h1, h2⟩ := out_all hff h hv ha hb k (by omega)
    have hkl : k < P.length := by omega
    cases hq : f (inB a P[k]) (inB b P[k]) with
    | false =>
      rw [out_step hkl hq, if_neg (by simp)]
      exact ⟨cinv_skip h ha hb hkl h1 hq, h2⟩
    | true =>
      rw [out_step hkl hq, if_pos rfl]
      exact ⟨cinv_join h hv ha hb hkl h1 hq, join_edges h2 (nxt_edges hkl)⟩
theorem ord_edges_len {L : List I} (h : OrdL L) : 2 * L.length ≤ (edges L).length + 1 := by
  induction h with
  | nil => simp
  | one hx => simp only [edges]; split <;> simp
  | @cons x y l hx hs hl ih =>
    have ho : x.o = false := (sepB_iff.1 hs).1
    have e : edges (x :: y :: l) = x.f :: x.t :: edges (y :: l) := by simp [edges, ho]
    rw [e]
    simp only [List.length_cons] at ih ⊢
    omega
/-- What is known of the canonical list of an operation. -/
theorem comb_all {f : Bool → Bool → Bool} (hff : f false false = false) {a b : List I} (hv : ∀ x ∈ edges (a ++ b), validB x = true) :
    OrdL (combL f a b) ∧ (∀ u, inB (combL f a b) u = f (inB a u) (inB b u)) ∧ (combL f a b).length ≤ a.length + b.length := by
  obtain ⟨P, hp1, hp2⟩ := pts_exist (edges (a ++ b))
  have ha : EdgesIn a P := edges_in fun e he => (hp2 e).2 (by rw [edges_app]; exact List.mem_append_left _ he)
  have hb : EdgesIn b P := edges_in fun e he => (hp2 e).2 (by rw [edges_app]; exact List.mem_append_right _ he)
  obtain ⟨h1, h2⟩ := out_all hff hp1 (fun x hx => hv x ((hp2 x).1 hx)) ha hb P.length (Nat.le_refl _)
  have hm : ∀ u, inB (outL f a b P P.length) u = f (inB a u) (inB b u) := fun u => by
    rw [h1.mem u, upTo_iff.2 (fun h => by omega), Bool.true_and]
  have he : outL f a b P P.length = combL f a b := combL_is h1.ord hm
  rw [he] at hm h2
  have ho : OrdL (combL f a b) := by rw [← he]; exact h1.ord
  refine ⟨ho, hm, ?_⟩
  have l1 := ord_edges_len ho
  have l2 := asc_sub (edges_ok ho).1 (edges_of_in h2)
  have l3 := asc_sub hp1 (fun x hx => (hp2 x).1 hx)
  have l4 := edges_len (a ++ b)
  rw [List.length_append] at l4
  omega
theorem comb_ord {f : Bool → Bool → Bool} (hff : f false false = false) {a b : List I} (ha : OrdL a) (hb : OrdL b) :
    OrdL (combL f a b) ∧ (∀ u, inB (combL f a b) u = f (inB a u) (inB b u)) ∧ (combL f a b).length ≤ a.length + b.length :=
  comb_all hff fun x hx => by
    rw [edges_app] at hx
    rcases List.mem_append.1 hx with hx | hx
    · exact (edges_ok ha).2.1 x hx
    · exact (edges_ok hb).2.1 x hx
end Go.Proofs.Ytmjokpakekfkfaa
