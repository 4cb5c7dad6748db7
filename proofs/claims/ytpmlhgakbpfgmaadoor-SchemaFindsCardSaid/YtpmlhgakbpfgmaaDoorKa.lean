/- Contracts of partsynccase.Case's Bool and Cells. -/
import Derived.Test.YtpmlhgakbpfgmaaDoorE
import Derived.Test.YtpmlhgakbpfgmaaDoorR
import Derived.Laws.AppendOwn
import Derived.Laws.AppendOwnNone
set_option linter.unusedSimpArgs false
set_option linter.unusedVariables false
namespace Go.Proofs.YtpmlhgakbpfgmaaDoor
open Go.RowKit

def GotB (b : Nat) (c : CaseId) (w : World) (e : Ending) (w' : World) : Prop := ∃ x : Bool, e = .returned (.bool x) ∧ CaseAt w' b c ∧ w.grownBy w' (some b)
theorem bool_calls (b : Nat) (c : CaseId) (w : World) (hc : CaseAt w b c) : Calls Tryd.prog 19 #[.pointer (some ⟨b, 0, none⟩), .int .i64 3] w (GotB b c w) := by
  have hi := int_calls b c 3 (by omega) (by omega) w hc
  have HI := Lib.hid hi
  clear hi hc
  go_enter Tryd.func19, Tryd.ntmps19
  go_wp2_with fail
  refine HI.out.mono ?_
  rintro e w' ⟨x, rfl, hx0, hx1, hcs, hby⟩
  have HC := Lib.hid hcs
  have HB := Lib.hid hby
  clear hcs hby HI
  go_wp2
  go_ret
  exact ⟨_, rfl, HC.out, HB.out⟩

theorem flat_snoc (r : List V) (v : V) : flat (r ++ [v]) = flat r ++ [.int .i64 v.k, .int .i64 v.n, .string v.t] := by
  induction r with
  | nil => rfl
  | cons a r ih => simp [flat, ih]
theorem by_mono {w w' : World} {r r' : Option Nat} (h : w.grownBy w' r) (hr : ∀ k, k < w.heap.size → some k ≠ r' → some k ≠ r) : w.grownBy w' r' :=
  ⟨h.os, h.tape, h.output, h.size, fun k hk hn => h.block k hk (hr k hk hn)⟩

theorem by_own {w0 w w' : World} {b : Nat} {r : Option Nat} (h : w0.grownBy w (some b)) (hg : w.grownBy w' r) (hr : ∀ k, r = some k → w0.heap.size ≤ k) : w0.grownBy w' (some b) :=
  ⟨hg.os.trans h.os, hg.tape.trans h.tape, hg.output.trans h.output, Nat.le_trans h.size hg.size, fun k hk hn => (hg.block k (Nat.lt_of_lt_of_le hk h.size) (fun e => by have := hr k e.symm; omega)).trans (h.block k hk hn)⟩
/-- A change of what is the call's own. -/
theorem CaseAt.kept {w0 w w' : World} {b : Nat} {c : CaseId} {r : Option Nat} (h0 : CaseAt w0 b c) (h : CaseAt w b c) (hg : w.grownBy w' r) (hr : ∀ k, r = some k → w0.heap.size ≤ k) : CaseAt w' b c := by
  obtain ⟨pos, h⟩ := h
  obtain ⟨pos0, h0⟩ := h0
  have hb := h0.lt
  have hne : ∀ k, k < w0.heap.size → some k ≠ r := fun k hk e => by have := hr k e.symm; omega
  refine ⟨pos, Nat.lt_of_lt_of_le h.lt hg.size, hg.cell h.c0 (hne _ hb), hg.cell h.c1 (hne _ hb), by rw [World.frozen?_of_block (w := w) (hg.block b h.lt (hne _ hb))]; exact h.f1, h.le, h.few, ?_⟩
  rcases h0.num with h0n | ⟨g0, off0, e0, h00, _⟩
  · exact .inl h0n
  · rcases h.num with hn' | ⟨g, off, e, h1, h2, h3⟩
    · exact .inl hn'
    · rw [e0] at e
      simp only [Option.some.injEq, Addr.mk.injEq] at e
      obtain ⟨rfl, rfl, -⟩ := e
      exact .inr ⟨g0, off0, e0, Nat.lt_of_lt_of_le h1 hg.size, h2, fun i hi => let ⟨x, k1, k2⟩ := h3 i hi; ⟨x, hg.cell k1 (hne _ h00), k2⟩⟩
theorem cell_three_new (w : World) (x y z : Value) (t : TypeId) : ∀ j u, [x, y, z][j]? = some u → (w.alloc (.cells #[x, y, z] t)).cell? ((⟨w.heap.size, 0, none⟩ : Addr).add j) = some u := by
  intro j u hj
  rcases j with _ | _ | _ | j
  · simp at hj; subst hj; show (w.alloc _).cell? ⟨w.heap.size, 0 + 0, none⟩ = _; go_simp
  · simp at hj; subst hj; show (w.alloc _).cell? ⟨w.heap.size, 0 + 1, none⟩ = _; go_simp
  · simp at hj; subst hj; show (w.alloc _).cell? ⟨w.heap.size, 0 + 2, none⟩ = _; go_simp
  · simp at hj
theorem own_far {w : World} {base b : Nat} {e : TypeId} {size n : Nat} {v : Value} {xs : List Value} (h : w.ownsRow base e size v n xs) (hb : b < base) : v.ownBlock = none ∨ v.ownBlock ≠ some b := by
  cases hv : v.ownBlock with
  | none => exact .inl rfl
  | some k => right; intro e; cases e; have := (h.lt b hv).1; omega

theorem wrap_pred (k : Nat) (h0 : 0 < k) (h : k ≤ 4398046511104) : wrap64 ((k : Int) - 1) = (k : Int) - 1 := by
  unfold wrap64
  omega
def GotRow (b : Nat) (c : CaseId) (n : Nat) (w : World) (e : Ending) (w' : World) : Prop :=
  ∃ (v : Value) (r : List V), e = .returned v ∧ r.length = n ∧ w'.ownsRow w.heap.size 56 3 v r.length (flat r) ∧ CaseAt w' b c ∧ w.grownBy w' (some b)

/-- All cells are valid values. -/
def AllV (r : List V) : Prop := ∀ x ∈ r, validB x = true ∧ isNum x.n
theorem AllV.snoc {r : List V} (h : AllV r) {x : V} (h1 : validB x = true) (h2 : isNum x.n) : AllV (r ++ [x]) := by
  intro y hy
  rcases List.mem_append.1 hy with hy | hy
  · exact h y hy
  · rw [List.mem_singleton] at hy; subst hy; exact ⟨h1, h2⟩
def GotRowV (b : Nat) (c : CaseId) (n : Nat) (w : World) (e : Ending) (w' : World) : Prop :=
  ∃ (v : Value) (r : List V), e = .returned v ∧ r.length = n ∧ w'.ownsRow w.heap.size 56 3 v r.length (flat r) ∧ CaseAt w' b c ∧ w.grownBy w' (some b) ∧ AllV r

end Go.Proofs.YtpmlhgakbpfgmaaDoor
