/- What the law file's rows leave. -/
import Derived.Test.YtmjokpakekfkfaaKa
import Derived.Test.YtmjokpakekfkfaaT
set_option linter.unusedSimpArgs false
set_option linter.unusedVariables false
namespace Go.Proofs.Ytmjokpakekfkfaa
open Go.RowKit

theorem Owned.far {base b : Nat} {w w' : World} {v : Value} {out : List (List V)} (h : Owned base w v out) (hg : w.grownBy w' (some b)) (hb : b < base) : Owned base w' v out := by
  obtain ⟨xs, h1, h2⟩ := h
  exact ⟨xs, h1.kept hg (own_far h1 hb), fun j hj => let ⟨u, a, b, c⟩ := h2 j hj; ⟨u, a, b.kept hg (own_far b hb), c⟩⟩
theorem Owned.nil (base : Nat) (w : World) : Owned base w (.slice none 0 0) [] := ⟨[], World.ownsRow_nil _ _ _ _, fun j h => absurd h (Nat.not_lt_zero _)⟩
/-- The cells and the length of a list of rows. -/
theorem Owned.shape {base : Nat} {w : World} {v : Value} {out : List (List V)} (h : Owned base w v out) : ∃ a cap, v = .slice a out.length cap ∧ ∀ j (h : j < out.length), ∃ g u, a = some ⟨g, 0, none⟩ ∧ g < w.heap.size ∧ w.cell? ⟨g, j, none⟩ = some u ∧ w.ownsRow base 25 3 u out[j].length (flat out[j]) ∧ out[j].length ≤ 4398046511104 := by
  obtain ⟨xs, h1, h2⟩ := h
  have h0 := h1
  obtain ⟨hx, hv | ⟨g, cap, cur, hv, hg, hh, hcap, hm, hs, ht⟩⟩ := h1
  · obtain ⟨rfl, hn⟩ := hv
    exact ⟨none, 0, by rw [hn], fun j hj => by omega⟩
  · subst hv
    refine ⟨_, cap, rfl, fun j hj => ?_⟩
    obtain ⟨u, k1, k2, k3⟩ := h2 j hj
    exact ⟨g, u, rfl, (Array.getElem?_eq_some_iff.1 hh).1, (h0.cellAt j (by omega)).trans k1, k2, k3⟩

theorem ownsRow_slice {w : World} {base : Nat} {e : TypeId} {size : Nat} {v : Value} {n : Nat} {xs : List Value} (h : w.ownsRow base e size v n xs) : ∃ a cap, v = .slice a n cap := by
  obtain ⟨hx, hv | ⟨g, cap, cur, hv, hg, hh, hcap, hm, hs, ht⟩⟩ := h
  · obtain ⟨rfl, hn⟩ := hv; exact ⟨none, 0, by rw [hn]⟩
  · exact ⟨_, _, hv⟩
def GotRows (b : Nat) (c : CaseId) (w : World) (e : Ending) (w' : World) : Prop :=
  ∃ (v : Value) (rs : List (List V)), e = .returned v ∧ rs.length ≤ 6 ∧ (∀ r ∈ rs, r.length ≤ 2) ∧ Owned w.heap.size w' v rs ∧ CaseAt w' b c ∧ w.grownBy w' (some b)

end Go.Proofs.Ytmjokpakekfkfaa
