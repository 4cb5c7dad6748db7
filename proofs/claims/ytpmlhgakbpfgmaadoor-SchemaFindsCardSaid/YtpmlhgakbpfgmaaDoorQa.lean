/- The contract of the laws' kinds. -/
import Derived.Test.YtpmlhgakbpfgmaaDoorPw
import Derived.Test.YtpmlhgakbpfgmaaDoorPz
set_option linter.unusedSimpArgs false
set_option linter.unusedVariables false
namespace Go.Proofs.YtpmlhgakbpfgmaaDoor
open Go.RowKit

theorem wrap_i64 {n : Int} (h0 : -4398046511104 ≤ n) (h : n ≤ 4398046511104) : wrap64 n = n := by
  unfold wrap64
  omega
def KindsOk (l : List Int) : Prop := ∀ k ∈ l, 3 ≤ k ∧ k ≤ 5
def GotKinds (b : Nat) (c : CaseId) (most : Nat) (w : World) (e : Ending) (w' : World) : Prop :=
  ∃ (v : Value) (l : List Int), e = .returned v ∧ l.length ≤ most ∧ KindsOk l ∧ OwnN w' w.heap.size v l ∧ CaseAt w' b c ∧ w.grownBy w' (some b)
theorem OwnN.far {base b : Nat} {w w' : World} {v : Value} {l : List Int} (h : OwnN w base v l) (hg : w.grownBy w' (some b)) (hb : b < base) : OwnN w' base v l := World.ownsRow.kept h hg (own_far h hb)
theorem kindsOk_B {l : List Int} (h : KindsOk l) : kindsB l = true := by
  unfold kindsB
  rw [List.all_eq_true]
  intro k hk
  obtain ⟨h1, h2⟩ := h k hk
  obtain rfl | rfl | rfl : k = 3 ∨ k = 4 ∨ k = 5 := by omega
  all_goals rfl
end Go.Proofs.YtpmlhgakbpfgmaaDoor
/- The contracts of the laws' values and of the case's Row. -/
set_option linter.unusedSimpArgs false
set_option linter.unusedVariables false
namespace Go.Proofs.YtpmlhgakbpfgmaaDoor
open Go.RowKit

/-- Values of these kinds. -/
def GotVals (b : Nat) (c : CaseId) (ks : List Int) (w : World) (e : Ending) (w' : World) : Prop :=
  ∃ (v : Value) (r : List V), e = .returned v ∧ r.map V.k = ks ∧ AllV r ∧ w'.ownsRow w.heap.size 56 3 v r.length (flat r) ∧ CaseAt w' b c ∧ w.grownBy w' (some b)
/-- Cells of these kinds, some of them Hidden or Missing. -/
def CellsOk (ks : List Int) (r : List V) : Prop := ∀ j (h : j < r.length), r[j].k = ks.getD j 0 ∨ r[j].k = 1 ∨ r[j].k = 2
def GotCells (b : Nat) (c : CaseId) (ks : List Int) (w : World) (e : Ending) (w' : World) : Prop :=
  ∃ (v : Value) (r : List V), e = .returned v ∧ r.length = ks.length ∧ CellsOk ks r ∧ AllV r ∧ w'.ownsRow w.heap.size 56 3 v r.length (flat r) ∧ CaseAt w' b c ∧ w.grownBy w' (some b)
theorem CellsOk.snoc {ks : List Int} {r : List V} (h : CellsOk ks r) (hl : r.length < ks.length) {x : V} (hx : x.k = ks[r.length] ∨ x.k = 1 ∨ x.k = 2) : CellsOk ks (r ++ [x]) := by
  intro j hj
  by_cases hjl : j < r.length
  · rw [List.getElem_append_left hjl]; exact h j hjl
  · obtain rfl : j = r.length := by simp at hj; omega
    rw [List.getElem_append_right (Nat.le_refl _)]
    simp only [Nat.sub_self, List.getElem_cons_zero]
    rw [show ks.getD r.length 0 = ks[r.length] from by simp [hl]]; exact hx
/-- One cell more, in the call's own memory. -/
theorem row_snoc {w w2 w7 : World} {b : Nat} {c : CaseId} {r : List V} {v v' : Value} {x : V} (h0 : CaseAt w b c) (hc : CaseAt w2 b c) (hb : w.grownBy w2 (some b)) (ho : w2.ownsRow w.heap.size 56 3 v r.length (flat r))
    (ho' : w7.ownsRow w.heap.size 56 3 v' (r.length + 1) (flat r ++ [.int .i64 x.k, .int .i64 x.n, .string x.t])) (hg : (w2.alloc (.cells #[.int .i64 x.k, .int .i64 x.n, .string x.t] 56)).grownBy w7 v.ownBlock) :
    w7.ownsRow w.heap.size 56 3 v' (r ++ [x]).length (flat (r ++ [x])) ∧ CaseAt w7 b c ∧ w.grownBy w7 (some b) := by
  have hal := World.grownBy_alloc w2 (.cells #[.int .i64 x.k, .int .i64 x.n, .string x.t] 56)
  refine ⟨?_, ?_, ?_⟩
  · rw [flat_snoc, List.length_append]; exact ho'
  · exact h0.kept (hc.grown (hal none)) hg (fun k hk => (ho.lt k hk).1)
  · exact by_own (by_trans hb (hal _)) hg (fun k hk => (ho.lt k hk).1)

end Go.Proofs.YtpmlhgakbpfgmaaDoor
