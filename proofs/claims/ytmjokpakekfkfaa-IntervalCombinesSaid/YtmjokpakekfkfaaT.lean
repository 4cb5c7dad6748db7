/- The contract of value.Set. -/
import Derived.Test.YtmjokpakekfkfaaS
set_option linter.unusedSimpArgs false
set_option linter.unusedVariables false
namespace Go.Proofs.Ytmjokpakekfkfaa
open Go.RowKit

/-- 'copy' of the values of a slice of rows into one that the call has just made. -/
theorem run_copy1 (w0 w : World) (hbw : Below w0.heap.size w0 w) (ty : TypeId) (a : Option Addr) (cap n g : Nat) (cur : Array Value) (rows : List (List V)) (hn : n = rows.length) (hg : w.heap[g]? = some (.cells cur 88 (0, 0))) (hcur : cur.size = n)
    (hsrc : rows = [] ∨ ∃ b off, a = some ⟨b, off, none⟩ ∧ RowsIn w0 b off rows) :
    ∃ (w' : World) (us : List Value), (Builtin.copy_ #[87, 87] ty #[.slice (some ⟨g, 0, none⟩) n n, .slice a n cap]).run Try.prog w = .ok (goInt n) w' ∧ us.length = n ∧ (∀ i (h : i < rows.length), RowAt w0 (us.getD i (.slice none 0 0)) rows[i]) ∧
      w'.heap[g]? = some (.cells us.toArray 88 (0, 0)) ∧ w.grownBy w' (some g) := by
  obtain ⟨i, hi, hz, hsz, hby⟩ := info_parts info38
  subst hn
  by_cases hr : rows = []
  · subst hr
    simp only [List.length_nil] at hcur
    obtain rfl : cur = #[] := Array.eq_empty_of_size_eq_zero hcur
    refine ⟨w, [], ?_, rfl, fun i h => absurd h (Nat.not_lt_zero _), hg, ⟨rfl, rfl, rfl, Nat.le_refl _, fun _ _ _ => rfl⟩⟩
    cases a <;> simp [Builtin.copy_, run_underlying Try.underlying87, Builtin.lenOf, Builtin.firstCells, sizeOf, typeInfo, hi, hsz, storeCells, loadCells, loadCellsFrom]
  · obtain ⟨b, off, rfl, hb⟩ := hsrc.resolve_left hr
    have hex : ∃ us : List Value, us.length = rows.length ∧ ∀ i (h : i < rows.length), w.cell? ⟨b, off + i, none⟩ = some (us.getD i (.slice none 0 0)) ∧ RowAt w0 (us.getD i (.slice none 0 0)) rows[i] := by
      refine ⟨(List.range rows.length).map (fun i => (w.cell? ⟨b, off + i, none⟩).getD (.slice none 0 0)), by simp, fun i h => ?_⟩
      obtain ⟨u, h1, h2⟩ := hb.at_ i h
      have h1 : w.cell? ⟨b, off + i, none⟩ = some u := (hbw.cell (p := ⟨b, off + i, none⟩) hb.blk).trans h1
      have he : ((List.range rows.length).map (fun i => (w.cell? ⟨b, off + i, none⟩).getD (.slice none 0 0))).getD i (.slice none 0 0) = u := by
        rw [List.getD_eq_getElem?_getD]
        simp [h, h1]
      rw [he]
      exact ⟨h1, h2⟩
    obtain ⟨us, hul, hus⟩ := hex
    have h1 : ∀ v ∈ us, v.oneCell' = true := fun v hv => by
      obtain ⟨i, hi', he⟩ := List.mem_iff_getElem.1 hv
      obtain ⟨-, a, cap, h, -⟩ := hus i (by omega)
      rw [List.getD_eq_getElem?_getD, List.getElem?_eq_getElem hi', Option.getD_some, he] at h
      rw [h]; rfl
    have hrun := run_copy_row (P := Try.prog) w 87 87 ty 88 g 0 rows.length rows.length ⟨b, off, none⟩ rows.length cap cur 88 us Try.underlying87 (by rw [hi]; simp [hsz]) hg (by simp [hul, Nat.min_def]) (fun j v hj => by
      have hjl : j < us.length := (List.getElem?_eq_some_iff.1 hj).1
      have h2 := (hus j (by omega)).1
      rw [List.getD_eq_getElem?_getD, hj, Option.getD_some] at h2
      rcases j with _ | j <;> simpa [Addr.add] using h2) (by omega) h1
    have hcs : (cur.toList.take 0 ++ us ++ cur.toList.drop (0 + us.length)).toArray = us.toArray := by
      rw [List.drop_eq_nil_of_le (by simp; omega)]; simp
    rw [hcs, hul] at hrun
    exact ⟨w.setRow g us.toArray, us, hrun, hul, fun i h => (hus i h).2, setRow_heap w g cur _ _ _ hg, ⟨rfl, rfl, rfl, by simp [World.setRow], fun k _ hk => setRow_other w g k _ (fun e => hk (by rw [e]))⟩⟩

/-- A list of rows that the call owns: the outer row, and each inner row. -/
def Owned (base : Nat) (w : World) (v : Value) (out : List (List V)) : Prop :=
  ∃ xs : List Value, w.ownsRow base 88 1 v out.length xs ∧ ∀ j (h : j < out.length), ∃ u, xs[j]? = some u ∧ w.ownsRow base 25 3 u out[j].length (flat out[j]) ∧ out[j].length ≤ 4398046511104

theorem Owned.at_ {base : Nat} {w : World} {v : Value} {out : List (List V)} (h : Owned base w v out) (hl : out.length ≤ 4398046511104) : RowsAt w v out := by
  obtain ⟨xs, ho, hi⟩ := h
  have h0 := ho
  obtain ⟨hx, hv | ⟨g, cap, cur, hv, hg, hh, hcap, hm, hs, ht⟩⟩ := ho
  · obtain ⟨rfl, hn⟩ := hv
    obtain rfl : out = [] := List.eq_nil_of_length_eq_zero hn
    exact ⟨none, 0, rfl, by simp, .inl rfl⟩
  · subst hv
    refine ⟨some ⟨g, 0, none⟩, cap, rfl, hl, .inr ⟨g, 0, rfl, (Array.getElem?_eq_some_iff.1 hh).1, fun i h => ?_⟩⟩
    obtain ⟨u, h1, h2, h3⟩ := hi i h
    refine ⟨u, ?_, .of_owned h2 h3⟩
    rw [Nat.zero_add, h0.cellAt i (by omega), h1]

theorem below_grown {w w' : World} (h : Below w.heap.size w w') : w.grownBy w' none := ⟨h.os, h.tape, h.output, h.size, fun k hk _ => h.block k hk⟩
theorem ownsRow_mono {w : World} {base base' : Nat} {e : TypeId} {size : Nat} {v : Value} {n : Nat} {xs : List Value} (h : w.ownsRow base e size v n xs) (hb : base' ≤ base) : w.ownsRow base' e size v n xs :=
  ⟨h.1, h.2.imp id fun ⟨g, cap, cur, h1, h2, h3⟩ => ⟨g, cap, cur, h1, Nat.le_trans hb h2, h3⟩⟩
theorem Owned.mono {base base' : Nat} {w : World} {v : Value} {out : List (List V)} (h : Owned base w v out) (hb : base' ≤ base) : Owned base' w v out := by
  obtain ⟨xs, h1, h2⟩ := h
  exact ⟨xs, ownsRow_mono h1 hb, fun j hj => let ⟨u, a, b, c⟩ := h2 j hj; ⟨u, a, ownsRow_mono b hb, c⟩⟩
theorem Owned.later {base : Nat} {w w' : World} {v : Value} {out : List (List V)} (h : Owned base w v out) (hw : Below w.heap.size w w') : Owned base w' v out := by
  obtain ⟨xs, h1, h2⟩ := h
  have hn : ∀ u : Value, u.ownBlock = none ∨ u.ownBlock ≠ (none : Option Nat) := fun u => by cases u.ownBlock <;> simp
  exact ⟨xs, h1.kept (below_grown hw) (hn _), fun j hj => let ⟨u, a, b, c⟩ := h2 j hj; ⟨u, a, b.kept (below_grown hw) (hn _), c⟩⟩

/-- The outer row's block is not an inner row's. -/
theorem own_ne {w : World} {base base' n m : Nat} {v u : Value} {xs ys : List Value} (h : w.ownsRow base 88 1 v n xs) (h' : w.ownsRow base' 25 3 u m ys) : u.ownBlock = none ∨ u.ownBlock ≠ v.ownBlock := by
  obtain ⟨_, hv | ⟨g, cap, cur, hv, hg, hh, _⟩⟩ := h
  · obtain ⟨_, hu | ⟨g', cap', cur', hu, hg', hh', _⟩⟩ := h'
    · left; rw [hu.1]; rfl
    · right; rw [hu, hv.1]; simp [Value.ownBlock]
  · obtain ⟨_, hu | ⟨g', cap', cur', hu, hg', hh', _⟩⟩ := h'
    · left; rw [hu.1]; rfl
    · right
      rw [hu, hv]
      simp only [Value.ownBlock, ne_eq, Option.some.injEq]
      rintro rfl
      rw [hh] at hh'
      simp at hh'
/-- One more row behind the others. -/
theorem Owned.snoc {base : Nat} {w w2 : World} {v v' u : Value} {out : List (List V)} {xs : List Value} {r : List V}
    (ho : w.ownsRow base 88 1 v out.length xs) (hi : ∀ j (h : j < out.length), ∃ u, xs[j]? = some u ∧ w.ownsRow base 25 3 u out[j].length (flat out[j]) ∧ out[j].length ≤ 4398046511104)
    (hu : w.ownsRow base 25 3 u r.length (flat r)) (hr : r.length ≤ 4398046511104)
    (ho' : w2.ownsRow base 88 1 v' (out.length + 1) (xs ++ [u])) (hg : w.grownBy w2 v.ownBlock) : Owned base w2 v' (out ++ [r]) := by
  refine ⟨xs ++ [u], by simpa using ho', fun j hj => ?_⟩
  have hxl : xs.length = out.length := by have := ho.1; omega
  by_cases h : j < out.length
  · obtain ⟨u', h1, h2, h3⟩ := hi j h
    refine ⟨u', ?_, ?_, ?_⟩
    · rw [List.getElem?_append, if_pos (by omega)]; exact h1
    · rw [List.getElem_append_left h]; exact h2.kept hg (own_ne ho h2)
    · rw [List.getElem_append_left h]; exact h3
  · have hje : j = out.length := by simp at hj; omega
    subst hje
    refine ⟨u, ?_, ?_, ?_⟩
    · rw [List.getElem?_append, if_neg (by omega)]; simp [hxl]
    · simp only [List.getElem_append_right (Nat.le_refl _), Nat.sub_self, List.getElem_cons_zero]; exact hu.kept hg (own_ne ho hu)
    · simp only [List.getElem_append_right (Nat.le_refl _), Nat.sub_self, List.getElem_cons_zero]; exact hr
end Go.Proofs.Ytmjokpakekfkfaa
