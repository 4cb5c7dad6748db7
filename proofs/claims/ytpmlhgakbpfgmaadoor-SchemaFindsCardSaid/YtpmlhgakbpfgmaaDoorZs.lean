/- The contract of the case's Schema. -/
import Derived.Test.YtpmlhgakbpfgmaaDoorZr
import Derived.Deep.CutRange
import Derived.Test.YtpmlhgakbpfgmaaDoorPz
import Derived.Test.YtpmlhgakbpfgmaaDoorKx
set_option linter.unusedSimpArgs false
set_option linter.unusedVariables false
namespace Go.Proofs.YtpmlhgakbpfgmaaDoor
open Go.RowKit
theorem cols_new1 (w : World) (a : Col) (T : TypeId) : ColsAt (fun g => g = w.heap.size) (w.alloc (.cells #[.string a.n, .int .i64 a.k] T)) (.slice (some ⟨w.heap.size, 0, none⟩) 1 1) [a] := by
  refine ⟨_, 1, rfl, by simp, by simp, .inr ⟨w.heap.size, 0, rfl, by simp, rfl, fun j hj => ?_⟩⟩
  obtain rfl : j = 0 := by simp at hj; omega
  exact ⟨by go_simp, by go_simp⟩
theorem cols_new2 (w : World) (a b : Col) (T : TypeId) : ColsAt (fun g => g = w.heap.size) (w.alloc (.cells #[.string a.n, .int .i64 a.k, .string b.n, .int .i64 b.k] T)) (.slice (some ⟨w.heap.size, 0, none⟩) 2 2) [a, b] := by
  refine ⟨_, 2, rfl, by simp, by simp, .inr ⟨w.heap.size, 0, rfl, by simp, rfl, fun j hj => ?_⟩⟩
  obtain rfl | rfl : j = 0 ∨ j = 1 := by simp at hj; omega
  · exact ⟨by go_simp, by go_simp⟩
  · exact ⟨by go_simp, by go_simp⟩
theorem cols_new4 (w : World) (a b c d : Col) (T : TypeId) : ColsAt (fun g => g = w.heap.size) (w.alloc (.cells #[.string a.n, .int .i64 a.k, .string b.n, .int .i64 b.k, .string c.n, .int .i64 c.k, .string d.n, .int .i64 d.k] T)) (.slice (some ⟨w.heap.size, 0, none⟩) 4 4) [a, b, c, d] := by
  refine ⟨_, 4, rfl, by simp, by simp, .inr ⟨w.heap.size, 0, rfl, by simp, rfl, fun j hj => ?_⟩⟩
  obtain rfl | rfl | rfl | rfl : j = 0 ∨ j = 1 ∨ j = 2 ∨ j = 3 := by simp at hj; omega
  · exact ⟨by go_simp, by go_simp⟩
  · exact ⟨by go_simp, by go_simp⟩
  · exact ⟨by go_simp, by go_simp⟩
  · exact ⟨by go_simp, by go_simp⟩
abbrev tabsObj (id : Int) (g0 g1 g2 g3 : Nat) : Obj := .cells #[.string ⟨#[112, 114, 111, 106, 101, 99, 116, 115]⟩, .slice (some ⟨g0, 0, none⟩) 2 2, .int .i64 1, .slice none 0 0, .slice none 0 0, .string ⟨#[116, 97, 115, 107, 115]⟩, .slice (some ⟨g1, 0, none⟩) 4 4, .int .i64 1, .slice none 0 0, .slice none 0 0, .string ⟨#[109, 101, 109, 98, 101, 114, 115]⟩, .slice (some ⟨g2, 0, none⟩) 2 2, .int .i64 2, .slice none 0 0, .slice none 0 0, .string ⟨#[97, 114, 99, 104, 105, 118, 101, 100]⟩, .slice (some ⟨g3, 0, none⟩) 1 1, .int .i64 1, .slice none 0 0, .slice none 0 0] 52
theorem laid_new (X : World) (S : Nat → Prop) (id : Int) (g0 g1 g2 g3 : Nat) (h0 : ColsAt S X (.slice (some ⟨g0, 0, none⟩) 2 2) cols0) (h1 : ColsAt S X (.slice (some ⟨g1, 0, none⟩) 4 4) (cols1 id)) (h2 : ColsAt S X (.slice (some ⟨g2, 0, none⟩) 2 2) cols2) (h3 : ColsAt S X (.slice (some ⟨g3, 0, none⟩) 1 1) (cols3 id)) :
    Laid4 S (X.alloc (tabsObj id g0 g1 g2 g3)) X.heap.size (tab4 id [] [] [] []) := by
  have hb : Below X.heap.size X (X.alloc (tabsObj id g0 g1 g2 g3)) := (Below.refl _ _).alloc (Nat.le_refl _) _
  refine ⟨by simp, fun o => by go_simp, fun i hi => ?_⟩
  obtain rfl | rfl | rfl | rfl : i = 0 ∨ i = 1 ∨ i = 2 ∨ i = 3 := by omega
  · exact ⟨some ⟨g0, 0, none⟩, 2, none, 0, 0, none, 0, 0, ⟨by go_simp; rfl, by go_simp; rfl, by go_simp; rfl, by go_simp, by go_simp⟩, h0.later hb, fun _ => RefsAt.nil none 0, fun _ => PrIn.nil 3 none 0⟩
  · exact ⟨some ⟨g1, 0, none⟩, 4, none, 0, 0, none, 0, 0, ⟨by go_simp; rfl, by go_simp; rfl, by go_simp; rfl, by go_simp, by go_simp⟩, h1.later hb, fun _ => RefsAt.nil none 0, fun _ => PrIn.nil 3 none 0⟩
  · exact ⟨some ⟨g2, 0, none⟩, 2, none, 0, 0, none, 0, 0, ⟨by go_simp; rfl, by go_simp; rfl, by go_simp; rfl, by go_simp, by go_simp⟩, h2.later hb, fun _ => RefsAt.nil none 0, fun _ => PrIn.nil 3 none 0⟩
  · exact ⟨some ⟨g3, 0, none⟩, 1, none, 0, 0, none, 0, 0, ⟨by go_simp; rfl, by go_simp; rfl, by go_simp; rfl, by go_simp, by go_simp⟩, h3.later hb, fun _ => RefsAt.nil none 0, fun _ => PrIn.nil 3 none 0⟩
/-- A schema's box that may be stored into. -/
structure SBoxF (w : World) (g : Nat) (ver : Int) (a : Option Addr) (n cap : Nat) : Prop where
  s : SBox w g ver a n cap
  f : ∀ o, w.frozen? ⟨g, o, none⟩ = false
theorem SBoxF.by_ {w w' : World} {g : Nat} {ver : Int} {a : Option Addr} {n cap : Nat} {r : Option Nat} (h : SBoxF w g ver a n cap) (hw : w.grownBy w' r) (hr : some g ≠ r) : SBoxF w' g ver a n cap :=
  have hc : ∀ o, w'.cell? ⟨g, o, none⟩ = w.cell? ⟨g, o, none⟩ := fun o => World.cell?_of_block (hw.block g h.s.l hr)
  ⟨⟨Nat.lt_of_lt_of_le h.s.l hw.size, (hc _).trans h.s.c0, (hc _).trans h.s.c1⟩, fun o => (frozen_of (hw.block g h.s.l hr)).trans (h.f o)⟩
theorem SBoxF.new (w : World) (ver : Int) (a : Option Addr) (n cap : Nat) (T : TypeId) : SBoxF (w.alloc (.cells #[.int .i64 ver, .slice a n cap] T)) w.heap.size ver a n cap := ⟨SBox.new _ _ _ _ _ _, fun o => by go_simp⟩
/-- The case's schema while it is made. -/
structure CS (b : Nat) (c : CaseId) (w wr : World) (sb tb n : Nat) (ver id : Int) (R1 R2 R3 : List Rfc) (K1 : List Pr) : Prop where
  hb : b < w.heap.size
  t : w.heap.size < tb
  ts : tb < sb
  l : Laid4 (fun g => w.heap.size < g ∧ g ≠ tb ∧ g ≠ sb) wr tb (tab4 id R1 R2 R3 K1)
  s : SBoxF wr sb ver (some ⟨tb, 0, none⟩) n 4
  r : SBoxF wr w.heap.size 0 none 0 0
  c : CaseAt wr b c
  g : w.grownBy wr (some b)
theorem CS.case {b : Nat} {c : CaseId} {w wr wr' : World} {sb tb n : Nat} {ver id : Int} {R1 R2 R3 : List Rfc} {K1 : List Pr} (h : CS b c w wr sb tb n ver id R1 R2 R3 K1) (hc : CaseAt wr' b c) (hg : wr.grownBy wr' (some b)) : CS b c w wr' sb tb n ver id R1 R2 R3 K1 :=
  have hb := h.hb
  have ht := h.t
  have hts := h.ts
  ⟨h.hb, h.t, h.ts, h.l.kept (kept_by hg fun g e hS => by cases e; rcases hS with rfl | hS <;> omega), h.s.by_ hg (by simp <;> omega), h.r.by_ hg (by simp <;> omega), hc, by_trans h.g hg⟩
theorem CS.later {b : Nat} {c : CaseId} {w wr wr' : World} {sb tb n : Nat} {ver id : Int} {R1 R2 R3 : List Rfc} {K1 : List Pr} (h : CS b c w wr sb tb n ver id R1 R2 R3 K1) (hg : Below wr.heap.size wr wr') : CS b c w wr' sb tb n ver id R1 R2 R3 K1 :=
  have hg' : wr.grownBy wr' none := ⟨hg.os, hg.tape, hg.output, hg.size, fun k hk _ => hg.block k hk⟩
  h.case (h.c.grown hg') (by_some hg' _)
/-- A store into a block of the call's own. -/
theorem by_own_store {w wr : World} {b g o : Nat} {v : Value} (h : w.grownBy wr (some b)) (hg : w.heap.size ≤ g) : w.grownBy (wr.setCell ⟨g, o, none⟩ v) (some b) := by_store_new h hg v
theorem CS.cut {b : Nat} {c : CaseId} {w wr : World} {sb tb : Nat} {ver id : Int} {R1 R2 R3 : List Rfc} {K1 : List Pr} (h0 : CaseAt w b c) (h : CS b c w wr sb tb 4 ver id R1 R2 R3 K1) (n : Nat) : CS b c w (wr.setCell ⟨sb, 1, none⟩ (.slice (some ⟨tb, 0, none⟩) n 4)) sb tb n ver id R1 R2 R3 K1 := by
  have ht := h.t
  have hts := h.ts
  have hby : wr.grownBy (wr.setCell ⟨sb, 1, none⟩ (.slice (some ⟨tb, 0, none⟩) n 4)) (some sb) := by_store
  refine ⟨h.hb, h.t, h.ts, h.l.kept (kept_by hby fun g e hS => by cases e; rcases hS with rfl | hS <;> omega), ?_, h.r.by_ hby (by simp <;> omega), h0.stored h.c (by omega) _, by_store_new h.g (by omega) _⟩
  obtain ⟨⟨l, c0, c1⟩, f⟩ := h.s
  exact ⟨⟨by simpa using l, by go_simp, by go_simp⟩, fun o => by have := f o; go_simp⟩
theorem CS.refs {b : Nat} {c : CaseId} {w wr : World} {sb tb n : Nat} {ver id : Int} {R1 R2 R3 R1' R2' R3' : List Rfc} {K1 : List Pr} (h0 : CaseAt w b c) (h : CS b c w wr sb tb n ver id R1 R2 R3 K1) (j : Nat) (cv tv : Int) (T1 T2 : TypeId)
    (h1 : ∀ i, i < 4 → i ≠ j → tab4 id R1' R2' R3' K1 i = tab4 id R1 R2 R3 K1 i)
    (h2 : (tab4 id R1' R2' R3' K1 j).name = (tab4 id R1 R2 R3 K1 j).name ∧ (tab4 id R1' R2' R3' K1 j).cols = (tab4 id R1 R2 R3 K1 j).cols ∧ (tab4 id R1' R2' R3' K1 j).key = (tab4 id R1 R2 R3 K1 j).key ∧ (tab4 id R1' R2' R3' K1 j).checks = (tab4 id R1 R2 R3 K1 j).checks)
    (h3 : (tab4 id R1' R2' R3' K1 j).refs = [⟨[cv], tv⟩]) (hj : (0 + j * 5 + 3) < 20) (hold : ∃ v, wr.cell? ⟨tb, 0 + j * 5 + 3, none⟩ = some v) :
    CS b c w (((wr.setCell ⟨tb, 0 + j * 5 + 3, none⟩ (.slice (some ⟨wr.heap.size + 1, 0, none⟩) 1 1)).alloc (.cells #[.int .i64 cv] T1)).alloc (.cells #[.slice (some ⟨wr.heap.size, 0, none⟩) 1 1, .int .i64 tv] T2)) sb tb n ver id R1' R2' R3' K1 := by
  have ht := h.t
  have hts := h.ts
  have hsz := h.g.size
  have hbl := h.hb
  have hl1 := h.l.lt
  have hl2 := h.s.s.l
  obtain ⟨W1, hW1⟩ : ∃ W1, W1 = wr.setCell ⟨tb, 0 + j * 5 + 3, none⟩ (.slice (some ⟨wr.heap.size + 1, 0, none⟩) 1 1) := ⟨_, rfl⟩
  rw [← hW1]
  obtain ⟨v0, hv0⟩ := hold
  have hz : W1.heap.size = wr.heap.size := by rw [hW1]; simp
  have hb1 : wr.grownBy W1 (some tb) := by rw [hW1]; exact by_store
  have hg1 : Below W1.heap.size W1 ((W1.alloc (.cells #[.int .i64 cv] T1)).alloc (.cells #[.slice (some ⟨wr.heap.size, 0, none⟩) 1 1, .int .i64 tv] T2)) := ((Below.refl _ _).alloc (Nat.le_refl _) _).alloc (by simp) _
  have hcell : W1.cell? ⟨tb, 0 + j * 5 + 3, none⟩ = some (.slice (some ⟨wr.heap.size + 1, 0, none⟩) 1 1) := by rw [hW1]; exact World.cell?_setCell_same _ _ _ hv0
  have hoth : ∀ o, o ≠ 0 + j * 5 + 3 → W1.cell? ⟨tb, o, none⟩ = wr.cell? ⟨tb, o, none⟩ := fun o ho => by rw [hW1]; exact World.cell?_setCell_other _ _ _ _ (by simp <;> omega)
  have htl : tb < W1.heap.size := by rw [hz]; exact h.l.lt
  have hfz : ∀ o, W1.frozen? ⟨tb, o, none⟩ = false := fun o => by rw [hW1]; have := h.l.fz o; simpa using this
  obtain ⟨W2, hW2⟩ : ∃ W2, W2 = (W1.alloc (.cells #[.int .i64 cv] T1)).alloc (.cells #[.slice (some ⟨wr.heap.size, 0, none⟩) 1 1, .int .i64 tv] T2) := ⟨_, rfl⟩
  rw [← hW2] at hg1 ⊢
  have hkS : Kept (fun g => w.heap.size < g ∧ g ≠ tb ∧ g ≠ sb) wr W2 := (kept_by hb1 (S := fun g => w.heap.size < g ∧ g ≠ tb ∧ g ≠ sb) fun g e hS => by cases e; omega).trans (kept_below hg1)
  have hby : wr.grownBy W2 (some tb) := by_trans hb1 ⟨hg1.os, hg1.tape, hg1.output, hg1.size, fun k hk _ => hg1.block k hk⟩
  refine ⟨h.hb, h.t, h.ts, ?_, h.s.by_ hby (by simp <;> omega), h.r.by_ hby (by simp <;> omega), ?_, ?_⟩
  · refine h.l.refs j hkS (fun o => (frozen_of (hg1.block tb htl)).trans (hfz o)) (fun o ho => (hg1.cell (p := ⟨tb, o, none⟩) htl).trans (hoth o ho)) ((hg1.cell (p := ⟨tb, _, none⟩) htl).trans hcell) ?_ h1 h2
    rw [h3]
    refine ⟨_, 1, rfl, by simp, .inr ⟨wr.heap.size + 1, 0, rfl, by rw [hW2]; simp; omega, by omega, fun i hi => ?_⟩⟩
    obtain rfl : i = 0 := by simp at hi; omega
    refine ⟨some ⟨wr.heap.size, 0, none⟩, 1, ?_, ?_, ⟨_, 1, rfl, by simp, .inr ⟨wr.heap.size, 0, rfl, by rw [hW2]; simp; omega, by have := h.l.lt; have := h.s.s.l; omega, fun k hk => ?_⟩⟩⟩
    · rw [hW2, ← hz]; go_simp
    · rw [hW2, ← hz]; go_simp
    · obtain rfl : k = 0 := by simp at hk; omega
      rw [hW2, ← hz]; go_simp
  · have h1' : CaseAt W1 b c := by rw [hW1]; exact h0.stored h.c (by omega) _
    exact h1'.grown ⟨hg1.os, hg1.tape, hg1.output, hg1.size, fun k hk _ => hg1.block k hk⟩
  · have h1' : w.grownBy W1 (some b) := by rw [hW1]; exact by_store_new h.g (by omega) _
    exact by_trans h1' ⟨hg1.os, hg1.tape, hg1.output, hg1.size, fun k hk _ => hg1.block k hk⟩
theorem tab4_not1 (id : Int) (R1 R1' R2 R3 : List Rfc) (K1 K1' : List Pr) : ∀ i, i < 4 → i ≠ 1 → tab4 id R1' R2 R3 K1' i = tab4 id R1 R2 R3 K1 i
  | 0, _, _ => rfl
  | 1, _, h => absurd rfl h
  | 2, _, _ => rfl
  | n + 3, _, _ => rfl
theorem tab4_not2 (id : Int) (R1 R2 R2' R3 : List Rfc) (K1 : List Pr) : ∀ i, i < 4 → i ≠ 2 → tab4 id R1 R2' R3 K1 i = tab4 id R1 R2 R3 K1 i
  | 0, _, _ => rfl
  | 1, _, _ => rfl
  | 2, _, h => absurd rfl h
  | n + 3, _, _ => rfl
theorem tab4_not3 (id : Int) (R1 R2 R3 R3' : List Rfc) (K1 : List Pr) : ∀ i, i < 4 → i ≠ 3 → tab4 id R1 R2 R3' K1 i = tab4 id R1 R2 R3 K1 i
  | 0, _, _ => rfl
  | 1, _, _ => rfl
  | 2, _, _ => rfl
  | 3, _, h => absurd rfl h
theorem CS.refs1 {b : Nat} {c : CaseId} {w wr : World} {sb tb n : Nat} {ver id : Int} {R1 R2 R3 : List Rfc} {K1 : List Pr} (h0 : CaseAt w b c) (h : CS b c w wr sb tb n ver id R1 R2 R3 K1) (T1 T2 : TypeId) {v : Value} (hv : wr.cell? ⟨tb, 8, none⟩ = some v) :
    CS b c w (((wr.setCell ⟨tb, 8, none⟩ (.slice (some ⟨wr.heap.size + 1, 0, none⟩) 1 1)).alloc (.cells #[.int .i64 1] T1)).alloc (.cells #[.slice (some ⟨wr.heap.size, 0, none⟩) 1 1, .int .i64 0] T2)) sb tb n ver id [⟨[1], 0⟩] R2 R3 K1 :=
  CS.refs h0 h 1 1 0 T1 T2 (tab4_not1 _ _ _ _ _ _ _) ⟨rfl, rfl, rfl, rfl⟩ rfl (by omega) ⟨v, hv⟩
theorem CS.refs2 {b : Nat} {c : CaseId} {w wr : World} {sb tb n : Nat} {ver id : Int} {R1 R2 R3 : List Rfc} {K1 : List Pr} (h0 : CaseAt w b c) (h : CS b c w wr sb tb n ver id R1 R2 R3 K1) (T1 T2 : TypeId) {v : Value} (hv : wr.cell? ⟨tb, 13, none⟩ = some v) :
    CS b c w (((wr.setCell ⟨tb, 13, none⟩ (.slice (some ⟨wr.heap.size + 1, 0, none⟩) 1 1)).alloc (.cells #[.int .i64 0] T1)).alloc (.cells #[.slice (some ⟨wr.heap.size, 0, none⟩) 1 1, .int .i64 0] T2)) sb tb n ver id R1 [⟨[0], 0⟩] R3 K1 :=
  CS.refs h0 h 2 0 0 T1 T2 (tab4_not2 _ _ _ _ _ _) ⟨rfl, rfl, rfl, rfl⟩ rfl (by omega) ⟨v, hv⟩
/-- The fourth table's references: what stands behind the four tables does not count. -/
theorem CS.refs3 {b : Nat} {c : CaseId} {w wr : World} {sb tb n : Nat} {ver id : Int} {R1 R2 R3 : List Rfc} {K1 : List Pr} (h0 : CaseAt w b c) (h : CS b c w wr sb tb n ver id R1 R2 R3 K1) (T1 T2 : TypeId) {v : Value} (hv : wr.cell? ⟨tb, 18, none⟩ = some v) :
    CS b c w (((wr.setCell ⟨tb, 18, none⟩ (.slice (some ⟨wr.heap.size + 1, 0, none⟩) 1 1)).alloc (.cells #[.int .i64 0] T1)).alloc (.cells #[.slice (some ⟨wr.heap.size, 0, none⟩) 1 1, .int .i64 1] T2)) sb tb n ver id R1 R2 [⟨[0], 1⟩] K1 :=
  CS.refs h0 h 3 0 1 T1 T2 (tab4_not3 _ _ _ _ _ _) ⟨rfl, rfl, rfl, rfl⟩ rfl (by omega) ⟨v, hv⟩
theorem CS.checks1 {b : Nat} {c : CaseId} {w wr : World} {sb tb n : Nat} {ver id : Int} {R1 R2 R3 : List Rfc} {K1 : List Pr} (h0 : CaseAt w b c) (h : CS b c w wr sb tb n ver id R1 R2 R3 K1) (p : Pr) (s : Value) (T1 : TypeId) {v : Value} (hold : wr.cell? ⟨tb, 9, none⟩ = some v)
    (hp : PrIn (fun g => w.heap.size < g ∧ g ≠ tb ∧ g ≠ sb) wr 2 s p.args) :
    CS b c w ((wr.setCell ⟨tb, 9, none⟩ (.slice (some ⟨wr.heap.size, 0, none⟩) 1 1)).alloc (pBlock p s T1)) sb tb n ver id R1 R2 R3 [p] := by
  have ht := h.t
  have hts := h.ts
  have hsz := h.g.size
  have hbl := h.hb
  have hl1 := h.l.lt
  have hl2 := h.s.s.l
  obtain ⟨W1, hW1⟩ : ∃ W1, W1 = wr.setCell ⟨tb, 9, none⟩ (.slice (some ⟨wr.heap.size, 0, none⟩) 1 1) := ⟨_, rfl⟩
  rw [← hW1]
  have hz : W1.heap.size = wr.heap.size := by rw [hW1]; simp
  have hb1 : wr.grownBy W1 (some tb) := by rw [hW1]; exact by_store
  have hg1 : Below W1.heap.size W1 (W1.alloc (pBlock p s T1)) := (Below.refl _ _).alloc (Nat.le_refl _) _
  have hcell : W1.cell? ⟨tb, 9, none⟩ = some (.slice (some ⟨wr.heap.size, 0, none⟩) 1 1) := by rw [hW1]; exact World.cell?_setCell_same _ _ _ hold
  have hoth : ∀ o, o ≠ 9 → W1.cell? ⟨tb, o, none⟩ = wr.cell? ⟨tb, o, none⟩ := fun o ho => by rw [hW1]; exact World.cell?_setCell_other _ _ _ _ (by simp <;> omega)
  have htl : tb < W1.heap.size := by rw [hz]; exact h.l.lt
  have hfz : ∀ o, W1.frozen? ⟨tb, o, none⟩ = false := fun o => by rw [hW1]; have := h.l.fz o; simpa using this
  have hpn : PrAt (W1.alloc (pBlock p s T1)) W1.heap.size 0 p s := ⟨by go_simp, by go_simp, by go_simp, by go_simp, by go_simp, by go_simp, by go_simp, by go_simp, by go_simp, by go_simp, by go_simp, by go_simp, by go_simp⟩
  obtain ⟨W2, hW2⟩ : ∃ W2, W2 = W1.alloc (pBlock p s T1) := ⟨_, rfl⟩
  rw [← hW2] at hg1 hpn ⊢
  have hkS : Kept (fun g => w.heap.size < g ∧ g ≠ tb ∧ g ≠ sb) wr W2 := (kept_by hb1 (S := fun g => w.heap.size < g ∧ g ≠ tb ∧ g ≠ sb) fun g e hS => by cases e; omega).trans (kept_below hg1)
  have hby : wr.grownBy W2 (some tb) := by_trans hb1 ⟨hg1.os, hg1.tape, hg1.output, hg1.size, fun k hk _ => hg1.block k hk⟩
  refine ⟨h.hb, h.t, h.ts, ?_, h.s.by_ hby (by simp <;> omega), h.r.by_ hby (by simp <;> omega), ?_, ?_⟩
  · refine h.l.checks 1 hkS (fun o => (frozen_of (hg1.block tb htl)).trans (hfz o)) (fun o ho => (hg1.cell (p := ⟨tb, o, none⟩) htl).trans (hoth o ho)) ((hg1.cell (p := ⟨tb, 9, none⟩) htl).trans hcell) ?_ (tab4_not1 _ _ _ _ _ _ _) ⟨rfl, rfl, rfl, rfl⟩
    refine ⟨_, 1, rfl, by show 1 ≤ _ ∧ 1 ≤ 1; omega, .inr ⟨wr.heap.size, 0, rfl, by rw [hW2]; simp; omega, by omega, fun i hi => ?_⟩⟩
    obtain rfl : i = 0 := by have : i < 1 := hi; omega
    rw [hz] at hpn
    exact ⟨s, hpn, hp.kept hkS⟩
  · have h1' : CaseAt W1 b c := by rw [hW1]; exact h0.stored h.c (by omega) _
    exact h1'.grown ⟨hg1.os, hg1.tape, hg1.output, hg1.size, fun k hk _ => hg1.block k hk⟩
  · have h1' : w.grownBy W1 (some b) := by rw [hW1]; exact by_store_new h.g (by omega) _
    exact by_trans h1' ⟨hg1.os, hg1.tape, hg1.output, hg1.size, fun k hk _ => hg1.block k hk⟩
theorem kinds4_1 (n : Nat) (hn : 2 ≤ n) (id : Int) (R1 R2 R3 : List Rfc) (K1 : List Pr) : kindsS (tabs4 n id R1 R2 R3 K1) 1 = [id, 4, 5, 3] := by
  unfold kindsS
  rw [show (1 : Int) = ((1 : Nat) : Int) from rfl, tabOf_nat (by rw [tabs4_length]; omega), tabs4_get]; rfl
/-- What the case's Schema answers. -/
def GotSchema (b : Nat) (c : CaseId) (w : World) (e : Ending) (w' : World) : Prop :=
  ∃ (ver : Int) (tb cap n : Nat) (id : Int) (R1 R2 R3 : List Rfc) (K1 : List Pr), e = .returned (.agg #[.int .i64 ver, .slice (some ⟨tb, 0, none⟩) n cap]) ∧ (0 ≤ ver ∧ ver ≤ 2) ∧ SchemaOk n id R1 R2 R3 K1 ∧ w.heap.size ≤ tb ∧
    Laid4 (fun g => w.heap.size ≤ g ∧ g ≠ tb) w' tb (tab4 id R1 R2 R3 K1) ∧ CaseAt w' b c ∧ w.grownBy w' (some b)
set_option maxHeartbeats 8000000 in
set_option maxRecDepth 100000 in
theorem caseSchema_calls (b : Nat) (c : CaseId) (w : World) (hc : CaseAt w b c) : Calls Tryd.prog 5 #[.pointer (some ⟨b, 0, none⟩)] w (GotSchema b c w) := by
  have mx := mixed
  have hlt := hc.lt
  have hc0 : CaseAt (w.alloc (.cells #[.int .i64 0, .slice none 0 0] 25)) b c := hc.grown (World.grownBy_alloc w _ none)
  have HI := Lib.hid (int_calls b c 3 (by omega) (by omega) _ hc0)
  have HLT := Lib.hid hlt
  have HCW := Lib.hid hc
  clear hc hc0 hlt
  go_enter Tryd.func5, Tryd.ntmps5
  go_wp2_with fail
  refine HI.out.mono ?_
  rintro e w1 ⟨x, rfl, hx0, hx1, hcs, hby⟩
  have HB5 := Lib.hid (boolp_calls b c 5 (by omega) (by omega) w1 hcs)
  have HB1 := Lib.hid hby
  obtain ⟨n, hn⟩ : ∃ n : Nat, 2 + x = n := ⟨(2 + x).toNat, by omega⟩
  have hn2 : 2 ≤ n := by omega
  have hn4 : n ≤ 4 := by omega
  clear hcs hby HI
  go_wp2_with fail
  refine HB5.out.mono ?_
  rintro e w2 ⟨q, rfl, hc2, hby2⟩
  have HC2 := Lib.hid hc2
  have HB2 := Lib.hid (by_trans HB1.out hby2)
  clear hc2 hby2 HB5
  go_upto_if 10 with fail
  go_cut [4] from 11 to 85 (fun v wx => ∃ id : Int, v = .int .i64 id ∧ (id = 4 ∨ id = 5) ∧ wx = w2)
  case first =>
    cases q
    · go_wp2_with fail
      go_meet
      case rel => exact ⟨4, rfl, .inl rfl, rfl⟩
    · go_wp2_with fail
      go_meet
      case rel => exact ⟨5, rfl, .inr rfl, rfl⟩
  case rest =>
    obtain ⟨id, rfl, hid, rfl⟩ := hcut
    obtain ⟨w2, rfl⟩ : ∃ w2 : World, w2 = wc := ⟨_, rfl⟩
    have HID := Lib.hid hid
    have HI3 := Lib.hid (int_calls b c 3 (by omega) (by omega) w2 HC2.out)
    clear hid
    go_wp2_with fail
    refine HI3.out.mono ?_
    rintro e w3 ⟨ver, rfl, hv0, hv1, hc3, hby3⟩
    have HV := Lib.hid (And.intro hv0 hv1)
    have HC3 := Lib.hid hc3
    have HB3 := Lib.hid (by_trans HB2.out hby3)
    clear hc3 hby3 HI3 hv0 hv1
    go_wp2_with fail
    refine (column_calls ⟨#[105, 100]⟩ 4 _).mono ?_
    rintro e v1 ⟨rfl, hg⟩
    have HR1 := Lib.hid hg
    clear hg
    go_wp2_with fail
    refine (column_calls ⟨#[111, 119, 110, 101, 114]⟩ 4 _).mono ?_
    rintro e v2 ⟨rfl, hg⟩
    have HR2 := Lib.hid hg
    clear hg
    have HCOL0 : Hid (ColsAt (fun g => g = v2.heap.size) (v2.alloc (.cells #[.string ⟨#[105, 100]⟩, .int .i64 4, .string ⟨#[111, 119, 110, 101, 114]⟩, .int .i64 4] 46)) (.slice (some ⟨v2.heap.size, 0, none⟩) 2 2) cols0) := cols_new2 v2 ⟨sId, 4⟩ ⟨sOwner, 4⟩ _
    go_wp2_with fail
    refine (column_calls ⟨#[105, 100]⟩ id _).mono ?_
    rintro e v3 ⟨rfl, hg⟩
    have HR3 := Lib.hid hg
    clear hg
    go_wp2_with fail
    refine (column_calls ⟨#[112, 114, 111, 106, 101, 99, 116]⟩ 4 _).mono ?_
    rintro e v4 ⟨rfl, hg⟩
    have HR4 := Lib.hid hg
    clear hg
    go_wp2_with fail
    refine (column_calls ⟨#[116, 105, 116, 108, 101]⟩ 5 _).mono ?_
    rintro e v5 ⟨rfl, hg⟩
    have HR5 := Lib.hid hg
    clear hg
    go_wp2_with fail
    refine (column_calls ⟨#[100, 111, 110, 101]⟩ 3 _).mono ?_
    rintro e v6 ⟨rfl, hg⟩
    have HR6 := Lib.hid hg
    clear hg
    have HCOL1 : Hid (ColsAt (fun g => g = v6.heap.size) (v6.alloc (.cells #[.string ⟨#[105, 100]⟩, .int .i64 id, .string ⟨#[112, 114, 111, 106, 101, 99, 116]⟩, .int .i64 4, .string ⟨#[116, 105, 116, 108, 101]⟩, .int .i64 5, .string ⟨#[100, 111, 110, 101]⟩, .int .i64 3] 46)) (.slice (some ⟨v6.heap.size, 0, none⟩) 4 4) (cols1 id)) := cols_new4 v6 ⟨sId, id⟩ ⟨sProject, 4⟩ ⟨sTitle, 5⟩ ⟨sDone, 3⟩ _
    go_wp2_with fail
    refine (column_calls ⟨#[112, 114, 111, 106, 101, 99, 116]⟩ 4 _).mono ?_
    rintro e v7 ⟨rfl, hg⟩
    have HR7 := Lib.hid hg
    clear hg
    go_wp2_with fail
    refine (column_calls ⟨#[112, 101, 114, 115, 111, 110]⟩ 4 _).mono ?_
    rintro e v8 ⟨rfl, hg⟩
    have HR8 := Lib.hid hg
    clear hg
    have HCOL2 : Hid (ColsAt (fun g => g = v8.heap.size) (v8.alloc (.cells #[.string ⟨#[112, 114, 111, 106, 101, 99, 116]⟩, .int .i64 4, .string ⟨#[112, 101, 114, 115, 111, 110]⟩, .int .i64 4] 46)) (.slice (some ⟨v8.heap.size, 0, none⟩) 2 2) cols2) := cols_new2 v8 ⟨sProject, 4⟩ ⟨sPerson, 4⟩ _
    go_wp2_with fail
    refine (column_calls ⟨#[116, 97, 115, 107]⟩ id _).mono ?_
    rintro e v9 ⟨rfl, hg⟩
    have HR9 := Lib.hid hg
    clear hg
    have HCOL3 : Hid (ColsAt (fun g => g = v9.heap.size) (v9.alloc (.cells #[.string ⟨#[116, 97, 115, 107]⟩, .int .i64 id] 46)) (.slice (some ⟨v9.heap.size, 0, none⟩) 1 1) (cols3 id)) := cols_new1 v9 ⟨sTask, id⟩ _
    go_upto_region 6 with fail
    obtain ⟨W5, hW5⟩ : ∃ W5, W5 = ((v9.alloc (.cells #[.string ⟨#[116, 97, 115, 107]⟩, .int .i64 id] 46)).alloc (tabsObj id v2.heap.size v6.heap.size v8.heap.size v9.heap.size)).alloc (.cells #[.int .i64 ver, .slice (some ⟨v9.heap.size + 1, 0, none⟩) 4 4] 25) := ⟨_, rfl⟩
    have HCS : Hid (CS b c w W5 (v9.heap.size + 1 + 1) (v9.heap.size + 1) 4 ver id [] [] [] []) := by
      have g2 : Gro (v2.alloc (.cells #[.string ⟨#[105, 100]⟩, .int .i64 4, .string ⟨#[111, 119, 110, 101, 114]⟩, .int .i64 4] 46)) v6 := ((HR3.out.trans HR4.out).trans HR5.out).trans HR6.out
      have g6 : Gro (v6.alloc (.cells #[.string ⟨#[105, 100]⟩, .int .i64 id, .string ⟨#[112, 114, 111, 106, 101, 99, 116]⟩, .int .i64 4, .string ⟨#[116, 105, 116, 108, 101]⟩, .int .i64 5, .string ⟨#[100, 111, 110, 101]⟩, .int .i64 3] 46)) v8 := HR7.out.trans HR8.out
      have g8 : Gro (v8.alloc (.cells #[.string ⟨#[112, 114, 111, 106, 101, 99, 116]⟩, .int .i64 4, .string ⟨#[112, 101, 114, 115, 111, 110]⟩, .int .i64 4] 46)) v9 := HR9.out
      have z0 : w.heap.size + 1 ≤ w3.heap.size := by have := HB3.out.size; simpa using this
      have z2 : w3.heap.size ≤ v2.heap.size := (HR1.out.trans HR2.out).size
      have z6 : v2.heap.size + 1 ≤ v6.heap.size := by have := g2.size; simpa using this
      have z8 : v6.heap.size + 1 ≤ v8.heap.size := by have := g6.size; simpa using this
      have z9 : v8.heap.size + 1 ≤ v9.heap.size := by have := g8.size; simpa using this
      obtain ⟨X, hX⟩ : ∃ X, X = v9.alloc (.cells #[.string ⟨#[116, 97, 115, 107]⟩, .int .i64 id] 46) := ⟨_, rfl⟩
      have gX : Gro v9 X := by rw [hX]; exact (Gro.refl _).alloc _
      have zX : X.heap.size = v9.heap.size + 1 := by rw [hX]; simp
      have k0 := HCOL0.out.later ((((g2.trans ((Gro.refl _).alloc _)).trans g6).trans ((Gro.refl _).alloc _)).trans (g8.trans gX)).below
      have k1 := HCOL1.out.later ((g6.trans ((Gro.refl _).alloc _)).trans (g8.trans gX)).below
      have k2 := HCOL2.out.later (g8.trans gX).below
      have k3 := HCOL3.out
      rw [← hX] at k3
      have hl := laid_new X (fun g => w.heap.size < g ∧ g ≠ v9.heap.size + 1 ∧ g ≠ v9.heap.size + 1 + 1) id _ _ _ _ (k0.mono fun g _ e => by subst e; omega) (k1.mono fun g _ e => by subst e; omega) (k2.mono fun g _ e => by subst e; omega) (k3.mono fun g _ e => by subst e; omega)
      rw [zX] at hl
      rw [← hX] at hW5
      obtain ⟨Y, hY⟩ : ∃ Y, Y = X.alloc (tabsObj id v2.heap.size v6.heap.size v8.heap.size v9.heap.size) := ⟨_, rfl⟩
      rw [← hY] at hW5 hl
      have zY : Y.heap.size = v9.heap.size + 1 + 1 := by rw [hY]; simp [zX]
      have gY : Gro X Y := by rw [hY]; exact (Gro.refl _).alloc _
      have gW : Gro Y W5 := by rw [hW5]; exact (Gro.refl _).alloc _
      have gA : Gro w3 W5 := ((((((HR1.out.trans HR2.out).trans ((Gro.refl _).alloc _)).trans g2).trans ((Gro.refl _).alloc _)).trans g6).trans ((Gro.refl _).alloc _)).trans ((g8.trans gX).trans (gY.trans gW))
      have hsb : SBoxF W5 (v9.heap.size + 1 + 1) ver (some ⟨v9.heap.size + 1, 0, none⟩) 4 4 := by rw [hW5, ← zY]; exact SBoxF.new _ _ _ _ _ _
      have hrb : SBoxF w3 w.heap.size 0 none 0 0 := (SBoxF.new w 0 none 0 0 _).by_ HB3.out (by have := HLT.out; simp; omega)
      exact ⟨HLT.out, by omega, by omega, hl.later gW.below, hsb, hrb.by_ (gro_by gA none) (by simp), HC3.out.grown (gro_by gA none), by_trans (by_alloc HB3.out) (gro_by gA _)⟩
    have HW5 := Lib.hid hW5
    rw [← HW5.out]
    clear hW5 HW5 HCOL0 HCOL1 HCOL2 HCOL3 HR1 HR2 HR3 HR4 HR5 HR6 HR7 HR8 HR9
    obtain ⟨tb, htb⟩ : ∃ tb, tb = v9.heap.size + 1 := ⟨_, rfl⟩
    have HTB := Lib.hid htb
    rw [← htb] at HCS ⊢
    clear htb
    obtain ⟨⟨sl, s0, s1⟩, sf⟩ := HCS.out.s
    have sf1 := sf 1
    have hnI : (n : Int) ≤ 4 := by omega
    clear sf
    go_upto_region 7 with fail
    obtain ⟨W6, hW6⟩ : ∃ W6, W6 = W5.setCell ⟨tb + 1, 1, none⟩ (.slice (some ⟨tb, 0, none⟩) n 4) := ⟨_, rfl⟩
    have HC6 : Hid (CS b c w W6 (tb + 1) tb n ver id [] [] [] []) := by
      show CS _ _ _ _ _ _ _ _ _ _ _ _ _
      rw [hW6]; exact CS.cut HCW.out HCS.out n
    have HW6 := Lib.hid hW6
    rw [← HW6.out]
    clear hW6 HW6 HCS sl s0 s1 sf1
    have HBL := Lib.hid (boolp_calls b c 2 (by omega) (by omega) W6 HC6.out.c)
    go_wp2_with fail
    refine HBL.out.mono ?_
    rintro e w7 ⟨q7, rfl, hc7, hby7⟩
    have HC7 := Lib.hid (HC6.out.case hc7 hby7)
    clear hc7 hby7 HBL HC6
    go_upto_if 40 with fail
    go_cut [] from 41 to 85 (fun wx => ∃ R1, (R1 = [] ∨ R1 = [⟨[1], 0⟩]) ∧ CS b c w wx (tb + 1) tb n ver id R1 [] [] [])
    case first =>
      cases q7
      · go_wp2_with fail
        go_meet
        case rel => exact ⟨[], .inl rfl, HC7.out⟩
      · obtain ⟨⟨sl, s0, s1⟩, sf⟩ := HC7.out.s
        have tf := HC7.out.l.fz 8
        obtain ⟨ca, cc, ra, rn, rc, ka, kn, kc, tcell, -⟩ := HC7.out.l.at_ 1 (by omega)
        have tc : w7.cell? ⟨tb, 8, none⟩ = some (.slice ra rn rc) := tcell.refs
        have tl := HC7.out.l.lt
        have hn1 : (1 : Int) < (n : Int) := by omega
        clear sf tcell
        go_wp2_with fail
        go_meet
        case rel =>
          exact ⟨_, .inr rfl, HC7.out.refs1 HCW.out _ _ tc⟩
    case rest =>
      obtain ⟨R1, hr1, hcs⟩ := hcut
      obtain ⟨w8, rfl⟩ : ∃ w8 : World, w8 = wc := ⟨_, rfl⟩
      have HC8 := Lib.hid hcs
      have HR1 := Lib.hid hr1
      clear hcs hr1 HC7
      go_upto_region 9 with fail
      go_cut [53] from 48 to 85 (fun v wx => ∃ q : Bool, v = .bool q ∧ (q = true → 2 < n) ∧ CS b c w wx (tb + 1) tb n ver id R1 [] [] [])
      case first =>
        by_cases hm : 2 < n
        · have hd : decide ((2 : Int) < (n : Int)) = true := by simp; omega
          have hd2 : decide (2 < n) = true := by simp; omega
          have HBQ := Lib.hid (boolp_calls b c 3 (by omega) (by omega) w8 HC8.out.c)
          go_wp2_with fail
          refine HBQ.out.mono ?_
          rintro e wy ⟨qy, rfl, hcy, hby⟩
          have HCY := Lib.hid (HC8.out.case hcy hby)
          clear hcy hby HBQ
          go_wp2_with fail
          go_meet
          case rel => exact ⟨qy, rfl, fun _ => hm, HCY.out⟩
        · have hd : decide ((2 : Int) < (n : Int)) = false := by simp; omega
          have hd2 : decide (2 < n) = false := by simp; omega
          go_wp2_with fail
          go_meet
          case rel => exact ⟨false, rfl, fun h => (by cases h), HC8.out⟩
      case rest =>
        obtain ⟨q53, rfl, hq, hcs⟩ := hcut
        obtain ⟨w9a, rfl⟩ : ∃ wz : World, wz = wc := ⟨_, rfl⟩
        have HC9a := Lib.hid hcs
        have HQ53 := Lib.hid hq
        clear hcs hq HC8
        go_upto_if 53 with fail
        go_cut [] from 54 to 85 (fun wx => ∃ R2, (R2 = [] ∨ R2 = [⟨[0], 0⟩]) ∧ (n < 3 → R2 = []) ∧ CS b c w wx (tb + 1) tb n ver id R1 R2 [] [])
        case first =>
          cases q53
          · go_wp2_with fail
            go_meet
            case rel => exact ⟨[], .inl rfl, fun _ => rfl, HC9a.out⟩
          · have hm := HQ53.out rfl
            obtain ⟨⟨sl, s0, s1⟩, sf⟩ := HC9a.out.s
            have tf := HC9a.out.l.fz 13
            obtain ⟨ca, cc, ra, rn, rc, ka, kn, kc, tcell, -⟩ := HC9a.out.l.at_ 2 (by omega)
            have tc : w9a.cell? ⟨tb, 13, none⟩ = some (.slice ra rn rc) := tcell.refs
            have tl := HC9a.out.l.lt
            have hn1 : (2 : Int) < (n : Int) := by omega
            clear sf tcell
            go_wp2_with fail
            go_meet
            case rel => exact ⟨_, .inr rfl, fun h => absurd hm (by omega), HC9a.out.refs2 HCW.out _ _ tc⟩
        case rest =>
          obtain ⟨R2, hr, hrn, hcs⟩ := hcut
          obtain ⟨w9, rfl⟩ : ∃ wz : World, wz = wc := ⟨_, rfl⟩
          have HC9 := Lib.hid hcs
          have HR2 := Lib.hid (And.intro hr hrn)
          clear hcs hr hrn HC9a
          go_upto_region 11 with fail
          go_cut [66] from 61 to 85 (fun v wx => ∃ q : Bool, v = .bool q ∧ (q = true → 3 < n) ∧ CS b c w wx (tb + 1) tb n ver id R1 R2 [] [])
          case first =>
            by_cases hm : 3 < n
            · have hd : decide ((3 : Int) < (n : Int)) = true := by simp; omega
              have hd2 : decide (3 < n) = true := by simp; omega
              have HBQ := Lib.hid (boolp_calls b c 3 (by omega) (by omega) w9 HC9.out.c)
              go_wp2_with fail
              refine HBQ.out.mono ?_
              rintro e wy ⟨qy, rfl, hcy, hby⟩
              have HCY := Lib.hid (HC9.out.case hcy hby)
              clear hcy hby HBQ
              go_wp2_with fail
              go_meet
              case rel => exact ⟨qy, rfl, fun _ => hm, HCY.out⟩
            · have hd : decide ((3 : Int) < (n : Int)) = false := by simp; omega
              have hd2 : decide (3 < n) = false := by simp; omega
              go_wp2_with fail
              go_meet
              case rel => exact ⟨false, rfl, fun h => (by cases h), HC9.out⟩
          case rest =>
            obtain ⟨q66, rfl, hq, hcs⟩ := hcut
            obtain ⟨w10a, rfl⟩ : ∃ wz : World, wz = wc := ⟨_, rfl⟩
            have HC10a := Lib.hid hcs
            have HQ66 := Lib.hid hq
            clear hcs hq HC9
            go_upto_if 66 with fail
            go_cut [] from 67 to 85 (fun wx => ∃ R3, (R3 = [] ∨ R3 = [⟨[0], 1⟩]) ∧ (n < 4 → R3 = []) ∧ CS b c w wx (tb + 1) tb n ver id R1 R2 R3 [])
            case first =>
              cases q66
              · go_wp2_with fail
                go_meet
                case rel => exact ⟨[], .inl rfl, fun _ => rfl, HC10a.out⟩
              · have hm := HQ66.out rfl
                obtain ⟨⟨sl, s0, s1⟩, sf⟩ := HC10a.out.s
                have tf := HC10a.out.l.fz 18
                obtain ⟨ca, cc, ra, rn, rc, ka, kn, kc, tcell, -⟩ := HC10a.out.l.at_ 3 (by omega)
                have tc : w10a.cell? ⟨tb, 18, none⟩ = some (.slice ra rn rc) := tcell.refs
                have tl := HC10a.out.l.lt
                have hn1 : (3 : Int) < (n : Int) := by omega
                clear sf tcell
                go_wp2_with fail
                go_meet
                case rel => exact ⟨_, .inr rfl, fun h => absurd hm (by omega), HC10a.out.refs3 HCW.out _ _ tc⟩
            case rest =>
              obtain ⟨R3, hr, hrn, hcs⟩ := hcut
              obtain ⟨w10, rfl⟩ : ∃ wz : World, wz = wc := ⟨_, rfl⟩
              have HC10 := Lib.hid hcs
              have HR3 := Lib.hid (And.intro hr hrn)
              clear hcs hr hrn HC10a
              have HBK := Lib.hid (boolp_calls b c 3 (by omega) (by omega) w10 HC10.out.c)
              go_wp2_with fail
              refine HBK.out.mono ?_
              rintro e w11 ⟨q11, rfl, hc11, hby11⟩
              have HC11 := Lib.hid (HC10.out.case hc11 hby11)
              clear hc11 hby11 HBK HC10
              go_upto_if 75 with fail
              go_cut [] from 76 to 85 (fun wx => ∃ K1, (K1 = [] ∨ ∃ p, K1 = [p] ∧ checkE [id, 4, 5, 3] [] p = 0) ∧ CS b c w wx (tb + 1) tb n ver id R1 R2 R3 K1)
              case first =>
                cases q11
                · go_wp2_with fail
                  go_meet
                  case rel => exact ⟨[], .inl rfl, HC11.out⟩
                · skip
                  go_wp2_with fail
                  have hn1 : (1 : Int) < (n : Int) := by omega
                  refine wp_region_noPanic ?_
                  refine wp_region_X (fun w' => CS b c w w' (tb + 1) tb n ver id R1 R2 R3 []) 9 (by kernel_rfl) (HC11.out.later ⟨rfl, rfl, rfl, Nat.le_refl _, fun _ _ => rfl⟩) (fun hHeld => ?_)
                  try simp only [Act.put, List.getElem_toArray, List.getElem_cons_succ, List.getElem_cons_zero, List.setIfInBounds_toArray, List.set_cons_zero, List.set_cons_succ]
                  refine wpX_take 0 (v := ?_) rfl (by kernel_rfl) (by kernel_rfl) (by kernel_rfl) (by kernel_rfl) (by kernel_rfl) (fun _ _ _ h => h) (Or.inl ⟨by rfl, ?_⟩) (by assumption) ?_
                  rotate_left
                  · intro w hSw; clear hSw; go_simp; try with_reducible rfl
                  try simp only [Act.put, List.getElem_toArray, List.getElem_cons_succ, List.getElem_cons_zero, List.setIfInBounds_toArray, List.set_cons_zero, List.set_cons_succ]
                  refine wpX_take 1 (v := ?_) rfl (by kernel_rfl) (by kernel_rfl) (by kernel_rfl) (by kernel_rfl) (by kernel_rfl) (fun _ _ _ h => h) (Or.inl ⟨by rfl, ?_⟩) (by assumption) ?_
                  rotate_left
                  · intro w hSw; obtain ⟨⟨l, c0, c1⟩, f⟩ := hSw.s; clear hSw; go_simp; try with_reducible rfl
                  try simp only [Act.put, List.getElem_toArray, List.getElem_cons_succ, List.getElem_cons_zero, List.setIfInBounds_toArray, List.set_cons_zero, List.set_cons_succ]
                  refine wpX_take 2 (v := ?_) rfl (by kernel_rfl) (by kernel_rfl) (by kernel_rfl) (by kernel_rfl) (by kernel_rfl) (fun _ _ _ h => h) (Or.inl ⟨by rfl, ?_⟩) (by assumption) ?_
                  rotate_left
                  · intro w hSw; clear hSw; go_simp; try with_reducible rfl
                  try simp only [Act.put, List.getElem_toArray, List.getElem_cons_succ, List.getElem_cons_zero, List.setIfInBounds_toArray, List.set_cons_zero, List.set_cons_succ]
                  refine wpX_take 3 (v := ?_) rfl (by kernel_rfl) (by kernel_rfl) (by kernel_rfl) (by kernel_rfl) (by kernel_rfl) (fun _ _ _ h => h) (Or.inl ⟨by rfl, ?_⟩) (by assumption) ?_
                  rotate_left
                  · intro w hSw; obtain ⟨⟨l, c0, c1⟩, f⟩ := hSw.s; clear hSw; go_simp; try with_reducible rfl
                  try simp only [Act.put, List.getElem_toArray, List.getElem_cons_succ, List.getElem_cons_zero, List.setIfInBounds_toArray, List.set_cons_zero, List.set_cons_succ]
                  refine wpX_one 4 (by kernel_rfl) rfl (fun K hK => ?_)
                  have HCK := Lib.hid hHeld
                  clear hHeld
                  go_simp
                  go_at_call 10
                  refine (refKinds_new true 3 (fun g => g = tb) _ ver _ (tabs4 n id R1 R2 R3 []) 1 _ (HCK.out.l.tabs n hn4 4)).mono ?_
                  rintro e wk ⟨vk, rfl, hik, hbk⟩
                  rw [kinds4_1 n hn2] at hik
                  have HCK2 := Lib.hid (HCK.out.later hbk)
                  have HSZ : Hid (tb + 1 < wk.heap.size ∧ b < w.heap.size ∧ w.heap.size < tb) := ⟨HCK2.out.s.s.l, HCK2.out.hb, HCK2.out.t⟩
                  have HIK : Hid (IntsAt (fun g => g ≠ b) wk vk [id, 4, 5, 3]) := hik.mono fun g _ hg => by have := HCK.out.s.s.l; have := HCK.out.hb; have := HCK.out.t; omega
                  obtain ⟨va, vc, rfl, -⟩ := HIK.out.slice
                  clear hik hbk
                  refine hK.out _ _ HCK2.out (fun hHeld => ?_)
                  clear hK K
                  try simp only [Act.put, List.getElem_toArray, List.getElem_cons_succ, List.getElem_cons_zero, List.setIfInBounds_toArray, List.set_cons_zero, List.set_cons_succ]
                  refine wpX_one 5 (by kernel_rfl) rfl (fun K hK => ?_)
                  clear hHeld
                  go_simp
                  go_at_call 21
                  refine (casePredicate_calls (fun g => g ≠ b) b (by simp) c _ (.slice none 0 0) [id, 4, 5, 3] [] (by intro k hk; have := HID.out; simp at hk; omega) (by simp [KindsOk]) (by simp) (by simp) 1 (by omega) wk HCK2.out.c HIK.out (IntsAt.nil none 0)).mono ?_
                  rintro e wp ⟨p, s, rfl, hps, hck, hdp, hcp, hbp⟩
                  have HCP := Lib.hid (HCK2.out.case hcp hbp)
                  have HPS : Hid (PrIn (fun g => w.heap.size < g ∧ g ≠ tb ∧ g ≠ tb + 1) wp 2 s p.args) := hps.mono fun g _ hg => by have := HSZ.out; omega
                  have HCHK := Lib.hid hck
                  obtain ⟨sa, scp, hss, -⟩ := hps.shape
                  subst hss
                  clear hps hck hdp hcp hbp
                  refine hK.out _ _ HCP.out (fun hHeld => ?_)
                  clear hK K
                  try simp only [Act.put, List.getElem_toArray, List.getElem_cons_succ, List.getElem_cons_zero, List.setIfInBounds_toArray, List.set_cons_zero, List.set_cons_succ]
                  refine wpX_one 6 (by kernel_rfl) rfl (fun K hK => ?_)
                  clear hHeld
                  go_simp
                  refine hK.out _ _ (HCP.out.later ((Below.refl _ _).alloc (Nat.le_refl _) _)) (fun hHeld => ?_)
                  clear hK K
                  try simp only [Act.put, List.getElem_toArray, List.getElem_cons_succ, List.getElem_cons_zero, List.setIfInBounds_toArray, List.set_cons_zero, List.set_cons_succ]
                  refine wpX_take 7 (v := ?_) rfl (by kernel_rfl) (by kernel_rfl) (by kernel_rfl) (by kernel_rfl) (by kernel_rfl) (fun _ _ _ h => h) (Or.inl ⟨by rfl, ?_⟩) (by assumption) ?_
                  rotate_left
                  · intro w hSw; clear hSw; go_simp; try with_reducible rfl
                  try simp only [Act.put, List.getElem_toArray, List.getElem_cons_succ, List.getElem_cons_zero, List.setIfInBounds_toArray, List.set_cons_zero, List.set_cons_succ]
                  refine wpX_take 8 (v := ?_) rfl (by kernel_rfl) (by kernel_rfl) (by kernel_rfl) (by kernel_rfl) (by kernel_rfl) (fun _ _ _ h => h) (Or.inl ⟨by rfl, ?_⟩) (by assumption) ?_
                  rotate_left
                  · intro w hSw; clear hSw; go_simp; try with_reducible rfl
                  try simp only [Act.put, List.getElem_toArray, List.getElem_cons_succ, List.getElem_cons_zero, List.setIfInBounds_toArray, List.set_cons_zero, List.set_cons_succ]
                  have tf := HCP.out.l.fz 9
                  obtain ⟨ca, cc, ra, rn, rc, ka, kn, kc, tcell, -⟩ := HCP.out.l.at_ 1 (by omega)
                  have tc : wp.cell? ⟨tb, 9, none⟩ = some (.slice ka kn kc) := tcell.checks
                  have tl := HCP.out.l.lt
                  clear tcell hHeld
                  refine wpX_last 9 (by kernel_rfl) rfl rfl (by kernel_rfl) (fun K hK => ?_)
                  go_simp
                  refine hK.out _ _ ?_
                  clear hK K
                  refine NoPanic.normal ?_
                  go_wp2_with fail
                  go_meet
                  case rel => exact ⟨[p], .inr ⟨p, rfl, HCHK.out⟩, HCP.out.checks1 HCW.out p _ _ tc HPS.out⟩
              case rest =>
                obtain ⟨K1, hk, hcs⟩ := hcut
                obtain ⟨w12, rfl⟩ : ∃ wz : World, wz = wc := ⟨_, rfl⟩
                have HC12 := Lib.hid hcs
                have HK1 := Lib.hid hk
                clear hcs hk HC11
                obtain ⟨⟨sl, s0, s1⟩, sf⟩ := HC12.out.s
                obtain ⟨⟨rl, r0, r1⟩, rf⟩ := HC12.out.r
                have rf0 := rf 0
                have rf1 := rf 1
                clear sf rf
                go_wp2_with fail
                have HF : Hid (GotSchema b c w (.returned (.agg #[.int .i64 ver, .slice (some ⟨tb, 0, none⟩) n 4])) ((w12.setCell ⟨w.heap.size, 0, none⟩ (.int .i64 ver)).setCell ⟨w.heap.size, 1, none⟩ (.slice (some ⟨tb, 0, none⟩) n 4))) := by
                  have hk1 : w12.grownBy ((w12.setCell ⟨w.heap.size, 0, none⟩ (.int .i64 ver)).setCell ⟨w.heap.size, 1, none⟩ (.slice (some ⟨tb, 0, none⟩) n 4)) (some w.heap.size) := by_trans by_store by_store
                  refine ⟨ver, tb, 4, n, id, R1, R2, R3, K1, rfl, ⟨HV.out.1, by have := HV.out.2; omega⟩, ⟨hn2, hn4, HID.out, HR1.out, HR2.out.1, HR3.out.1, HR3.out.2, HR2.out.2, HK1.out⟩, by have := HC12.out.t; omega, ?_, ?_, ?_⟩
                  · exact (HC12.out.l.kept (kept_by hk1 fun g e hS => by cases e; have := HC12.out.t; rcases hS with h | h <;> omega)).mono fun g _ hS => ⟨by omega, hS.2.1⟩
                  · exact HCW.out.stored (HCW.out.stored HC12.out.c (Nat.le_refl _) _) (Nat.le_refl _) _
                  · exact by_store_new (by_store_new HC12.out.g (Nat.le_refl _) _) (Nat.le_refl _) _
                exact bodyPost_ret (v := .agg #[.int .i64 ver, .slice (some ⟨tb, 0, none⟩) n 4]) (by simp [results, Tryd.results5, go_sem, r0, r1, rl, rf0, rf1]; try rfl) rfl HF.out
end Go.Proofs.YtpmlhgakbpfgmaaDoor
