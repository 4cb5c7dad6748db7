/- The contract of the case's Row for any key and mode. -/
import Derived.Test.YtpmlhgakbpfgmaaDoorZd
import Derived.Test.YtpmlhgakbpfgmaaDoorQa
import Derived.Deep.CutRange
import Derived.Test.YtpmlhgakbpfgmaaDoorZq
import Derived.Test.YtpmlhgakbpfgmaaDoorZs
set_option linter.unusedSimpArgs false
set_option linter.unusedVariables false
namespace Go.Proofs.YtpmlhgakbpfgmaaDoor
open Go.RowKit

/-- Whether a cell may stand at its place. -/
def CellM (key m : Int) (j : Nat) (kk : Int) (x : V) : Prop := x.k = kk ∨ (key ≤ j ∧ m ≠ 1 ∧ x.k = 2) ∨ (key ≤ j ∧ m = 3 ∧ x.k = 1)
def CellsOkM (ks : List Int) (key m : Int) (r : List V) : Prop := ∀ j (h : j < r.length), CellM key m j (ks.getD j 0) r[j]
theorem CellsOkM.snoc {ks : List Int} {key m : Int} {r : List V} (h : CellsOkM ks key m r) (hl : r.length < ks.length) {x : V} (hx : CellM key m r.length ks[r.length] x) : CellsOkM ks key m (r ++ [x]) := by
  intro j hj
  by_cases hjl : j < r.length
  · rw [List.getElem_append_left hjl]; exact h j hjl
  · obtain rfl : j = r.length := by simp at hj; omega
    rw [List.getElem_append_right (Nat.le_refl _)]
    simp only [Nat.sub_self, List.getElem_cons_zero]
    rw [show ks.getD r.length 0 = ks[r.length] from by simp [hl]]; exact hx
def GotCellsM (b : Nat) (c : CaseId) (ks : List Int) (key m : Int) (w : World) (e : Ending) (w' : World) : Prop :=
  ∃ (v : Value) (r : List V), e = .returned v ∧ r.length = ks.length ∧ CellsOkM ks key m r ∧ AllV r ∧ w'.ownsRow w.heap.size 56 3 v r.length (flat r) ∧ CaseAt w' b c ∧ w.grownBy w' (some b)
/-- Such a row fits. -/
theorem fits_of_cells {t : Tab} {m : Int} {r : List V} (hm : 1 ≤ m ∧ m ≤ 3) (hl : r.length = t.cols.length) (hc : CellsOkM (t.cols.map Col.k) t.key m r) (ha : AllV r) : fitsT t m r = true := by
  unfold fitsT
  rw [Bool.and_eq_true]
  refine ⟨by simpa using hl, ?_⟩
  rw [List.all_eq_true]
  intro i hi
  have hi' : i < r.length := by simpa using hi
  have h1 := hc i hi'
  have h2 := (ha r[i] (List.getElem_mem hi')).1
  unfold cellFits
  rw [show r.getD i ⟨0, 0, ⟨#[]⟩⟩ = r[i] from by simp [hi'], h2]
  generalize r[i] = x at h1
  rcases h1 with h | ⟨hk, hm1, h⟩ | ⟨hk, hm3, h⟩
  · rw [h]; simp
  · rw [h, decide_eq_true hk]; simp [lackB, hm1]
  · rw [h, decide_eq_true hk]; simp [lackB, hm3]
end Go.Proofs.YtpmlhgakbpfgmaaDoor
/- What the laws of schema share: the case's schema in a law, and that its references are good. -/
set_option linter.unusedSimpArgs false
set_option linter.unusedVariables false
namespace Go.Proofs.YtpmlhgakbpfgmaaDoor
open Go.RowKit

theorem keyKinds4 (n : Nat) (id : Int) (R1 R2 R3 : List Rfc) (K1 : List Pr) (i : Nat) (hi : i < n) : keyKindsS (tabs4 n id R1 R2 R3 K1) i = (kindsT (tab4 id R1 R2 R3 K1 i)).take (keyOf (tab4 id R1 R2 R3 K1 i).key (tab4 id R1 R2 R3 K1 i).cols.length) := by
  unfold keyKindsS kindsS
  rw [tabOf_nat (by rw [tabs4_length]; exact hi), tabs4_get]
theorem refs_good {n : Nat} {id : Int} {R1 R2 R3 : List Rfc} {K1 : List Pr} (ok : SchemaOk n id R1 R2 R3 K1) (i : Nat) (hi : i < n) (u : Rfc) (hu : u ∈ (tab4 id R1 R2 R3 K1 i).refs) :
    (∀ c ∈ u.cols, 0 ≤ c ∧ c < (kindsT (tab4 id R1 R2 R3 K1 i)).length) ∧ u.cols.map (atI (kindsT (tab4 id R1 R2 R3 K1 i))) = keyKindsS (tabs4 n id R1 R2 R3 K1) u.t := by
  have h4 := ok.n4
  have h2 := ok.n2
  obtain rfl | rfl | rfl | rfl : i = 0 ∨ i = 1 ∨ i = 2 ∨ i = 3 := by omega
  · exact absurd hu (by simp [tab4])
  · rcases ok.r1 with h | h
    · exact absurd hu (by simp [tab4, h])
    · have hu' : u = ⟨[1], 0⟩ := by simpa [tab4, h] using hu
      subst hu'
      refine ⟨fun c hc => ?_, ?_⟩
      · simp at hc; subst hc; simp [kindsT, tab4, cols1]
      · show _ = keyKindsS _ ((0 : Nat) : Int)
        rw [keyKinds4 n id R1 R2 R3 K1 0 (by omega)]; rfl
  · rcases ok.r2 with h | h
    · exact absurd hu (by simp [tab4, h])
    · have hu' : u = ⟨[0], 0⟩ := by simpa [tab4, h] using hu
      subst hu'
      refine ⟨fun c hc => ?_, ?_⟩
      · simp at hc; subst hc; simp [kindsT, tab4, cols2]
      · show _ = keyKindsS _ ((0 : Nat) : Int)
        rw [keyKinds4 n id R1 R2 R3 K1 0 (by omega)]; rfl
  · rcases ok.r3 with h | h
    · exact absurd hu (by simp [tab4, h])
    · have hu' : u = ⟨[0], 1⟩ := by simpa [tab4, h] using hu
      subst hu'
      refine ⟨fun c hc => ?_, ?_⟩
      · simp at hc; subst hc; simp [kindsT, tab4, cols3]
      · show _ = keyKindsS _ ((1 : Nat) : Int)
        rw [keyKinds4 n id R1 R2 R3 K1 1 (by omega)]; rfl
theorem kinds4_ok {n : Nat} {id : Int} {R1 R2 R3 : List Rfc} {K1 : List Pr} (ok : SchemaOk n id R1 R2 R3 K1) (i : Nat) (hi : i < n) : KindsOk (kindsS (tabs4 n id R1 R2 R3 K1) i) ∧ (kindsS (tabs4 n id R1 R2 R3 K1) i).length ≤ 4 ∧ 1 ≤ (kindsS (tabs4 n id R1 R2 R3 K1) i).length := by
  have h4 := ok.n4
  have hid := ok.idk
  unfold kindsS
  rw [tabOf_nat (by rw [tabs4_length]; exact hi), tabs4_get]
  obtain rfl | rfl | rfl | rfl : i = 0 ∨ i = 1 ∨ i = 2 ∨ i = 3 := by omega
  all_goals
    refine ⟨?_, by simp [kindsT, tab4, cols0, cols1, cols2, cols3], by simp [kindsT, tab4, cols0, cols1, cols2, cols3]⟩
    intro k hk
    simp [kindsT, tab4, cols0, cols1, cols2, cols3] at hk
    omega
/-- The case and its schema, in a law. -/
structure MS (b : Nat) (c : CaseId) (w0 wr : World) (sb tb n cap : Nat) (ver : Int) (T : Nat → Tab) : Prop where
  hb : w0.heap.size ≤ b
  ht : b < tb
  ts : tb < sb
  l : Laid4 (fun g => b < g ∧ g ≠ tb) wr tb T
  s : SBox wr sb ver (some ⟨tb, 0, none⟩) n cap
  c : CaseAt wr b c
  g : Below w0.heap.size w0 wr
theorem MS.case {b : Nat} {c : CaseId} {w0 wr wr' : World} {sb tb n cap : Nat} {ver : Int} {T : Nat → Tab} (h : MS b c w0 wr sb tb n cap ver T) (hc : CaseAt wr' b c) (hg : wr.grownBy wr' (some b)) : MS b c w0 wr' sb tb n cap ver T :=
  have ht := h.ht
  have hts := h.ts
  have hb := h.hb
  have hcl : ∀ o, wr'.cell? ⟨sb, o, none⟩ = wr.cell? ⟨sb, o, none⟩ := fun o => World.cell?_of_block (hg.block sb h.s.l (by simp; omega))
  ⟨h.hb, h.ht, h.ts, h.l.kept (kept_by hg fun g e hS => by cases e; rcases hS with h | h <;> omega), ⟨Nat.lt_of_lt_of_le h.s.l hg.size, (hcl _).trans h.s.c0, (hcl _).trans h.s.c1⟩, hc, h.g.grown hg h.g.size (fun k hk => by cases hk; exact h.hb)⟩
theorem MS.later {b : Nat} {c : CaseId} {w0 wr wr' : World} {sb tb n cap : Nat} {ver : Int} {T : Nat → Tab} (h : MS b c w0 wr sb tb n cap ver T) (hg : Below wr.heap.size wr wr') : MS b c w0 wr' sb tb n cap ver T :=
  ⟨h.hb, h.ht, h.ts, h.l.later hg, h.s.later hg, h.c.grown ⟨hg.os, hg.tape, hg.output, hg.size, fun k hk _ => hg.block k hk⟩, h.g.trans (hg.mono h.g.size)⟩
/-- The schema that the case has just made, in its box. -/
theorem MS.new {b : Nat} {c : CaseId} {w0 w1 w2 : World} {tb n cap : Nat} {ver : Int} {T : Nat → Tab} (hb : w0.heap.size ≤ b) (hbl : b < w1.heap.size) (h1 : Below w0.heap.size w0 w1) (ht : w1.heap.size ≤ tb) (hl : Laid4 (fun g => w1.heap.size ≤ g ∧ g ≠ tb) w2 tb T) (hc : CaseAt w2 b c) (hg : w1.grownBy w2 (some b)) (X : TypeId) :
    MS b c w0 (w2.alloc (.cells #[.int .i64 ver, .slice (some ⟨tb, 0, none⟩) n cap] X)) w2.heap.size tb n cap ver T := by
  have hal : Below w2.heap.size w2 (w2.alloc (.cells #[.int .i64 ver, .slice (some ⟨tb, 0, none⟩) n cap] X)) := (Below.refl _ _).alloc (Nat.le_refl _) _
  have h2 : Below w0.heap.size w0 w2 := h1.grown hg h1.size (fun k hk => by cases hk; exact hb)
  exact ⟨hb, by omega, hl.lt, (hl.mono fun g _ hS => ⟨by omega, hS.2⟩).later hal, SBox.new _ _ _ _ _ _, hc.grown (World.grownBy_alloc _ _ _), h2.trans (hal.mono h2.size)⟩
theorem MS.tabs {b : Nat} {c : CaseId} {w0 wr : World} {sb tb n cap : Nat} {ver id : Int} {R1 R2 R3 : List Rfc} {K1 : List Pr} (h : MS b c w0 wr sb tb n cap ver (tab4 id R1 R2 R3 K1)) (hn : n ≤ 4) : TabsAt true 3 (fun g => g = tb) (fun g => b < g ∧ g ≠ tb) wr (.slice (some ⟨tb, 0, none⟩) n cap) (tabs4 n id R1 R2 R3 K1) := h.l.tabs n hn cap
/-- The modes are weaker and weaker. -/
theorem fits12 {ts : List Tab} {i : Int} {r : List V} (h : fitsS ts i 1 r = true) : fitsS ts i 2 r = true := by
  unfold fitsS fitsT at h ⊢
  simp only [Bool.and_eq_true] at h ⊢
  refine ⟨⟨h.1.1, rfl⟩, h.2.1, ?_⟩
  rw [List.all_eq_true] at h ⊢
  intro j hj
  have := h.2.2 j hj
  unfold cellFits at this ⊢
  simp only [Bool.and_eq_true, Bool.or_eq_true] at this ⊢
  refine ⟨this.1, this.2.imp id fun h' => ⟨h'.1, ?_⟩⟩
  have h'' := h'.2
  unfold lackB at h'' ⊢
  split at h'' <;> simp_all
theorem fits23 {ts : List Tab} {i : Int} {r : List V} (h : fitsS ts i 2 r = true) : fitsS ts i 3 r = true := by
  unfold fitsS fitsT at h ⊢
  simp only [Bool.and_eq_true] at h ⊢
  refine ⟨⟨h.1.1, rfl⟩, h.2.1, ?_⟩
  rw [List.all_eq_true] at h ⊢
  intro j hj
  have := h.2.2 j hj
  unfold cellFits at this ⊢
  simp only [Bool.and_eq_true, Bool.or_eq_true] at this ⊢
  refine ⟨this.1, this.2.imp id fun h' => ⟨h'.1, ?_⟩⟩
  have h'' := h'.2
  unfold lackB at h'' ⊢
  split at h'' <;> simp_all
end Go.Proofs.YtpmlhgakbpfgmaaDoor
