/- Worlds in which the rows of a set have been overwritten. -/
import Derived.Test.YthlhpjickkhjfaaP
set_option linter.unusedSimpArgs false
set_option linter.unusedVariables false
namespace Go.Proofs.Ythlhpjickkhjfaa
open Go.RowKit

/-- Nothing has changed but the contents of the rows in the blocks from lo to hi. -/
structure Mess (lo hi : Nat) (w w' : World) : Prop where
  os : w'.os = w.os
  tape : w'.tape = w.tape
  output : w'.output = w.output
  size : w.heap.size ≤ w'.heap.size
  block : ∀ k, k < w.heap.size → (k < lo ∨ hi ≤ k ∨ ∀ cur, w.heap[k]? ≠ some (.cells cur 24 (0, 0))) → w'.heap[k]? = w.heap[k]?
  shape : ∀ k cur, lo ≤ k → k < hi → w.heap[k]? = some (.cells cur 24 (0, 0)) → ∃ cur', cur'.size = cur.size ∧ w'.heap[k]? = some (.cells cur' 24 (0, 0))
theorem Mess.refl (lo hi : Nat) (w : World) : Mess lo hi w w := ⟨rfl, rfl, rfl, Nat.le_refl _, fun _ _ _ => rfl, fun k cur _ _ h => ⟨cur, rfl, h⟩⟩
theorem Mess.later {lo hi : Nat} {w w1 w2 : World} (h : Mess lo hi w w1) (hb : Below w1.heap.size w1 w2) : Mess lo hi w w2 :=
  ⟨hb.os.trans h.os, hb.tape.trans h.tape, hb.output.trans h.output, Nat.le_trans h.size hb.size, fun k hk hn => (hb.block k (Nat.lt_of_lt_of_le hk h.size)).trans (h.block k hk hn), fun k cur h1 h2 h3 =>
    let ⟨cur', e, h4⟩ := h.shape k cur h1 h2 h3
    ⟨cur', e, (hb.block k (Array.getElem?_eq_some_iff.1 h4).1).trans h4⟩⟩
theorem heap_store {w : World} {k : Nat} {cur : Array Value} {T : TypeId} (h : w.heap[k]? = some (.cells cur T (0, 0))) (o : Nat) (v : Value) : (w.setCell ⟨k, o, none⟩ v).heap[k]? = some (.cells (cur.setIfInBounds o v) T (0, 0)) := by
  simp [World.setCell, Array.getElem?_modify, h]
theorem Mess.store {lo hi : Nat} {w w1 : World} (h : Mess lo hi w w1) {k : Nat} {cur : Array Value} (h1 : lo ≤ k) (h2 : k < hi) (h3 : w.heap[k]? = some (.cells cur 24 (0, 0))) (o : Nat) (v : Value) : Mess lo hi w (w1.setCell ⟨k, o, none⟩ v) := by
  refine ⟨h.os, h.tape, h.output, by have := h.size; simpa [World.setCell] using this, fun j hj hn => ?_, fun j c j1 j2 j3 => ?_⟩
  · have hne : j ≠ k := by
      rintro rfl
      rcases hn with hn | hn | hn
      · omega
      · omega
      · exact hn _ h3
    exact (Below.heap_setCell _ _ _ _ hne).trans (h.block j hj hn)
  · obtain ⟨c', e, h4⟩ := h.shape j c j1 j2 j3
    by_cases hne : j = k
    · subst hne
      exact ⟨_, by rw [Array.size_setIfInBounds]; exact e, heap_store h4 o v⟩
    · exact ⟨c', e, (Below.heap_setCell _ _ _ _ hne).trans h4⟩
/-- What lies below. -/
theorem Mess.below {lo hi : Nat} {w w' : World} (h : Mess lo hi w w') {n : Nat} (hn : n ≤ lo) (hw : n ≤ w.heap.size) : Below n w w' :=
  ⟨h.os, h.tape, h.output, h.size, fun k hk => h.block k (by omega) (.inl (by omega))⟩
theorem ownsRow_mess {lo hi : Nat} {w w' : World} (h : Mess lo hi w w') {base : Nat} (hb : hi ≤ base) {e : TypeId} {size n : Nat} {v : Value} {xs : List Value} (ho : w.ownsRow base e size v n xs) : w'.ownsRow base e size v n xs := by
  obtain ⟨hx, hv | ⟨g, cap, cur, hv, hg, hh, hr⟩⟩ := ho
  · exact ⟨hx, .inl hv⟩
  · exact ⟨hx, .inr ⟨g, cap, cur, hv, hg, (h.block g (Array.getElem?_eq_some_iff.1 hh).1 (.inr (.inl (by omega)))).trans hh, hr⟩⟩
/-- What lies above. -/
theorem Owned.mess {lo hi : Nat} {w w' : World} (h : Mess lo hi w w') {base : Nat} (hb : hi ≤ base) {v : Value} {out : List (List V)} (ho : Owned base w v out) : Owned base w' v out := by
  obtain ⟨xs, h1, h2⟩ := ho
  exact ⟨xs, ownsRow_mess h hb h1, fun j hj => let ⟨u, a, b, c⟩ := h2 j hj; ⟨u, a, ownsRow_mess h hb b, c⟩⟩

/-- The rows of a set: where they lie. -/
structure Places (lo hi : Nat) (w : World) (v : Value) (n : Nat) : Prop where
  at_ : ∃ a cap, v = .slice a n cap ∧ ∀ j, j < n → ∃ g pa m pc, a = some ⟨g, 0, none⟩ ∧ g < w.heap.size ∧ (∀ cur, w.heap[g]? ≠ some (.cells cur 24 (0, 0))) ∧ w.cell? ⟨g, j, none⟩ = some (.slice pa m pc) ∧ m ≤ 4398046511104 ∧
    (m = 0 ∨ ∃ r cur, pa = some ⟨r, 0, none⟩ ∧ lo ≤ r ∧ r < hi ∧ w.heap[r]? = some (.cells cur 24 (0, 0)) ∧ m * 3 ≤ cur.size)
theorem Owned.places {base : Nat} {w : World} {v : Value} {out : List (List V)} (h : Owned base w v out) : Places base w.heap.size w v out.length := by
  obtain ⟨xs, h1, h2⟩ := h
  have h0 := h1
  obtain ⟨hx, hv | ⟨g, cap, cur, hv, hg, hh, hcap, hm, hs, ht⟩⟩ := h1
  · exact ⟨none, 0, by rw [hv.1, hv.2], fun j hj => by omega⟩
  · subst hv
    refine ⟨_, cap, rfl, fun j hj => ?_⟩
    obtain ⟨u, k1, k2, k3⟩ := h2 j hj
    have hc := (h0.cellAt j (by omega)).trans k1
    have hg2 : ∀ cur, w.heap[g]? ≠ some (.cells cur 24 (0, 0)) := fun cur' e => by rw [hh] at e; simp at e
    obtain ⟨hx2, hv | ⟨r, rc, cur2, hv, hr, hh2, hrc, hm2, hs2, ht2⟩⟩ := k2
    · exact ⟨g, none, 0, 0, rfl, (Array.getElem?_eq_some_iff.1 hh).1, hg2, by rw [hc, hv.1], by omega, .inl rfl⟩
    · exact ⟨g, _, _, rc, rfl, (Array.getElem?_eq_some_iff.1 hh).1, hg2, by rw [hc, hv], k3, .inr ⟨r, cur2, rfl, hr, (Array.getElem?_eq_some_iff.1 hh2).1, hh2, by rw [hs2]; exact Nat.mul_le_mul_right 3 hrc⟩⟩
theorem Places.later {lo hi : Nat} {w w' : World} {v : Value} {n : Nat} (h : Places lo hi w v n) (hb : Below w.heap.size w w') : Places lo hi w' v n := by
  obtain ⟨a, cap, hv, hp⟩ := h.at_
  refine ⟨a, cap, hv, fun j hj => ?_⟩
  obtain ⟨g, pa, m, pc, h1, h2, h3, h4, h5, h6⟩ := hp j hj
  refine ⟨g, pa, m, pc, h1, Nat.lt_of_lt_of_le h2 hb.size, fun cur e => h3 cur ((hb.block g h2).symm.trans e), (hb.cell (p := ⟨g, j, none⟩) h2).trans h4, h5, h6.imp id fun ⟨r, cur, k1, k2, k3, k4, k5⟩ => ⟨r, cur, k1, k2, k3, (hb.block r (Array.getElem?_eq_some_iff.1 k4).1).trans k4, k5⟩⟩
theorem cell_of_heap {w : World} {k : Nat} {cur : Array Value} {T : TypeId} (h : w.heap[k]? = some (.cells cur T (0, 0))) {o : Nat} (ho : o < cur.size) : (∃ x, w.cell? ⟨k, o, none⟩ = some x) ∧ w.frozen? ⟨k, o, none⟩ = false ∧ k < w.heap.size := by
  refine ⟨⟨cur[o], ?_⟩, ?_, (Array.getElem?_eq_some_iff.1 h).1⟩
  · simp [World.cell?, h, ho]
  · simp [World.frozen?, h]
end Go.Proofs.Ythlhpjickkhjfaa
