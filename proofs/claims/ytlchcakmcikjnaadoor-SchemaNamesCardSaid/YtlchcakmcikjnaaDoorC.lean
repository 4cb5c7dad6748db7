/- Rows that the call owns, and the contracts of value.copyRow and the reference's Copy. -/
import Derived.Test.YtlchcakmcikjnaaDoorR
import Derived.OwnWalk
import Derived.Laws.OwnMore
import Derived.Laws.CopyRow
import Derived.Deep.OwnRows
set_option linter.unusedSimpArgs false
set_option linter.unusedVariables false
namespace Go.Proofs.YtlchcakmcikjnaaDoor
open Go.RowKit

/-- The cells of a row. -/
def flat : List V → List Value
  | [] => []
  | v :: r => .int .i64 v.k :: .int .i64 v.n :: .string v.t :: flat r
theorem flat_length (r : List V) : (flat r).length = r.length * 3 := by
  induction r with
  | nil => rfl
  | cons v r ih => simp [flat, ih]; omega
theorem flat_one (r : List V) : ∀ v ∈ flat r, v.oneCell' = true := by
  induction r with
  | nil => simp [flat]
  | cons v r ih => simp [flat, Value.oneCell']; exact ih
theorem flat_at (r : List V) (i : Nat) (h : i < r.length) : (flat r)[i * 3]? = some (.int .i64 r[i].k) ∧ (flat r)[i * 3 + 1]? = some (.int .i64 r[i].n) ∧ (flat r)[i * 3 + 2]? = some (.string r[i].t) := by
  induction r generalizing i with
  | nil => simp at h
  | cons v r ih =>
    rcases i with _ | i
    · simp [flat]
    · have := ih i (by simpa using h)
      rw [show (i + 1) * 3 = i * 3 + 3 from by omega]
      simpa [flat] using this
theorem flat_cells {w : World} {b : Nat} (r : List V) (off : Nat) (h : ∀ i (h : i < r.length), At w b (off + i * 3) r[i]) (j : Nat) (v : Value) (hj : (flat r)[j]? = some v) : w.cell? ⟨b, off + j, none⟩ = some v := by
  induction r generalizing off j with
  | nil => simp [flat] at hj
  | cons x r ih =>
    obtain ⟨k0, n0, t0⟩ := h 0 (by simp)
    simp at k0 n0 t0
    rcases j with _ | _ | _ | j
    · simp [flat] at hj; rw [← hj]; simpa using k0
    · simp [flat] at hj; rw [← hj]; simpa using n0
    · simp [flat] at hj; rw [← hj]; simpa using t0
    · have := ih (off + 3) (fun i hi => by
        have := h (i + 1) (by simpa using hi)
        rw [show off + (i + 1) * 3 = off + 3 + i * 3 from by omega] at this
        simpa using this) j (by simpa [flat] using hj)
      rw [show off + (j + 1 + 1 + 1) = off + 3 + j from by omega]
      exact this
theorem RowAt.of_owned {w : World} {base : Nat} {u : Value} {r : List V} (h : w.ownsRow base 56 3 u r.length (flat r)) (hl : r.length ≤ 4398046511104) : RowAt w u r := by
  have h0 := h
  obtain ⟨hx, hv | ⟨g, cap, cur, hv, hg, hh, hcap, hm, hs, ht⟩⟩ := h
  · obtain ⟨rfl, hn⟩ := hv
    obtain rfl : r = [] := List.eq_nil_of_length_eq_zero hn
    exact ⟨none, 0, rfl, by simp, .inl rfl⟩
  · subst hv
    refine ⟨some ⟨g, 0, none⟩, cap, rfl, hl, ?_⟩
    by_cases hr : r = []
    · exact .inl hr
    · refine .inr ⟨g, 0, rfl, (Array.getElem?_eq_some_iff.1 hh).1, fun i hi => ?_⟩
      obtain ⟨f0, f1, f2⟩ := flat_at r i hi
      have c0 := h0.cellAt (i * 3) (by omega)
      have c1 := h0.cellAt (i * 3 + 1) (by omega)
      have c2 := h0.cellAt (i * 3 + 2) (by omega)
      simp only [Nat.zero_add]
      exact ⟨c0.trans f0, c1.trans f1, c2.trans f2⟩

theorem info24 : (Tryd.prog.info? 56).map (fun i => (i.zero, i.size, i.bytes)) = some (some (V.val ⟨0, 0, ⟨#[]⟩⟩), 3, 32) := by kernel_rfl
theorem info38 : (Tryd.prog.info? 43).map (fun i => (i.zero, i.size, i.bytes)) = some (some (.slice none 0 0), 1, 24) := by kernel_rfl

/-- 'copy' of a row into one that the call has just made. -/
theorem run_copy3 (w : World) (ty : TypeId) (a : Option Addr) (cap n g : Nat) (cur : Array Value) (r : List V) (hn : n = r.length) (hg : w.heap[g]? = some (.cells cur 56 (0, 0))) (hcur : cur.size = n * 3)
    (hsrc : r = [] ∨ ∃ b off, a = some ⟨b, off, none⟩ ∧ RowIn w b off r) :
    ∃ w', (Builtin.copy_ #[43, 43] ty #[.slice (some ⟨g, 0, none⟩) n n, .slice a n cap]).run Tryd.prog w = .ok (goInt n) w' ∧ w'.heap[g]? = some (.cells (flat r).toArray 56 (0, 0)) ∧ w.grownBy w' (some g) := by
  obtain ⟨i, hi, hz, hsz, hby⟩ := info_parts info24
  subst hn
  by_cases hr : r = []
  · subst hr
    simp only [List.length_nil, Nat.zero_mul] at hcur
    obtain rfl : cur = #[] := Array.eq_empty_of_size_eq_zero hcur
    refine ⟨w, ?_, hg, ⟨rfl, rfl, rfl, Nat.le_refl _, fun _ _ _ => rfl⟩⟩
    cases a <;> simp [Builtin.copy_, run_underlying Tryd.underlying43, Builtin.lenOf, Builtin.firstCells, sizeOf, typeInfo, hi, hsz, storeCells, loadCells, loadCellsFrom]
  · obtain ⟨b, off, rfl, hb⟩ := hsrc.resolve_left hr
    have hl := run_loadCells_list (P := Tryd.prog) w ⟨b, off, none⟩ (flat r) (fun j v hj => by
      have := flat_cells r off hb.at_ j v hj
      rcases j with _ | j <;> simpa [Addr.add] using this)
    have hst := run_storeCells_at Tryd.prog g 0 56 (flat r) 0 cur w hg (by simp [flat_length, hcur]) (flat_one r)
    refine ⟨w.setRow g (flat r).toArray, ?_, setRow_heap w g cur _ _ _ hg, ⟨rfl, rfl, rfl, by simp [World.setRow], fun k _ hk => setRow_other w g k _ (fun e => hk (by rw [e]))⟩⟩
    have hd : cur.toList.drop (flat r).length = [] := List.drop_eq_nil_of_le (by simp [flat_length, hcur])
    simp only [flat_length] at hl hst hd
    simp [Builtin.copy_, run_underlying Tryd.underlying43, Builtin.lenOf, Builtin.firstCells, sizeOf, typeInfo, hi, hsz, hl, hst, hd, goInt]

end Go.Proofs.YtlchcakmcikjnaaDoor
