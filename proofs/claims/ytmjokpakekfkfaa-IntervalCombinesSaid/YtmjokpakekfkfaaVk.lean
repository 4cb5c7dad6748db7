/- The contract of the closure that interval.walk returns. -/
import Derived.Test.YtmjokpakekfkfaaVj
import Derived.Test.YtmjokpakekfkfaaVg
import Derived.StillTailTactics
set_option linter.unusedSimpArgs false
set_option linter.unusedVariables false
namespace Go.Proofs.Ytmjokpakekfkfaa
open Go.RowKit

/-- The four variables that the closure holds. -/
structure Walking (w0 w : World) (ka kp kb kq : Nat) (va vb : Value) (A B : List V) (p q : Nat) : Prop where
  bel : Below w0.heap.size w0 w
  za : w0.heap.size ≤ ka
  zb : w0.heap.size ≤ kb
  zp : w0.heap.size ≤ kp
  zq : w0.heap.size ≤ kq
  la : ka < w.heap.size
  lp : kp < w.heap.size
  lb : kb < w.heap.size
  lq : kq < w.heap.size
  ca : w.cell? ⟨ka, 0, none⟩ = some va
  cp : w.cell? ⟨kp, 0, none⟩ = some (.int .i64 (p : Int))
  cb : w.cell? ⟨kb, 0, none⟩ = some vb
  cq : w.cell? ⟨kq, 0, none⟩ = some (.int .i64 (q : Int))
  fp : w.frozen? ⟨kp, 0, none⟩ = false
  fq : w.frozen? ⟨kq, 0, none⟩ = false
  n1 : kp ≠ ka
  n2 : kp ≠ kb
  n3 : kp ≠ kq
  n4 : kq ≠ ka
  n5 : kq ≠ kb
  pA : p ≤ A.length
  qB : q ≤ B.length
  ra : CutV w0 va A
  rb : CutV w0 vb B
theorem Walking.kept {w0 w w' : World} {ka kp kb kq : Nat} {va vb : Value} {A B : List V} {p q : Nat} {r : Option Nat} (h : Walking w0 w ka kp kb kq va vb A B p q) (hg : w.grownBy w' r) (hr : ∀ k, r = some k → w0.heap.size ≤ k ∧ k ≠ ka ∧ k ≠ kp ∧ k ≠ kb ∧ k ≠ kq) : Walking w0 w' ka kp kb kq va vb A B p q := by
  have hs := hg.size
  have n : ∀ k, (k = ka ∨ k = kp ∨ k = kb ∨ k = kq) → some k ≠ r := fun k hk e => by
    obtain ⟨-, a, b, c, d⟩ := hr k e.symm
    rcases hk with h | h | h | h <;> contradiction
  exact { h with
    bel := h.bel.grown hg h.bel.size (fun k hk => (hr k hk).1)
    la := Nat.lt_of_lt_of_le h.la hs
    lp := Nat.lt_of_lt_of_le h.lp hs
    lb := Nat.lt_of_lt_of_le h.lb hs
    lq := Nat.lt_of_lt_of_le h.lq hs
    ca := hg.cell h.ca (n _ (by simp))
    cp := hg.cell h.cp (n _ (by simp))
    cb := hg.cell h.cb (n _ (by simp))
    cq := hg.cell h.cq (n _ (by simp))
    fp := by rw [World.frozen?_of_block (w := w) (hg.block kp h.lp (n _ (by simp)))]; exact h.fp
    fq := by rw [World.frozen?_of_block (w := w) (hg.block kq h.lq (n _ (by simp)))]; exact h.fq }
theorem inside_quiet (a : Option Addr) (n cap : Nat) (hn : n ≤ 4398046511104) (w : World) : Calls Try.prog 73 #[.slice a n cap] w fun e w' => e = .returned (.bool (oddB n)) ∧ w' = w :=
  (inside_calls a n cap hn w).mono fun _ _ ⟨h1, h2⟩ => ⟨h1, h2.symm⟩
theorem put3 (w : World) (g : Nat) (k n : Int) (t : ByteArray) {a b c : Value} (hg : g < w.heap.size) (z0 : w.frozen? ⟨g, 0, none⟩ = false) (z1 : w.frozen? ⟨g, 1, none⟩ = false) (z2 : w.frozen? ⟨g, 2, none⟩ = false)
    (s0 : w.cell? ⟨g, 0, none⟩ = some a) (s1 : w.cell? ⟨g, 1, none⟩ = some b) (s2 : w.cell? ⟨g, 2, none⟩ = some c) :
    w.grownBy (((w.setCell ⟨g, 0, none⟩ (.int .i64 k)).setCell ⟨g, 1, none⟩ (.int .i64 n)).setCell ⟨g, 2, none⟩ (.string t)) (some g) ∧
    (((w.setCell ⟨g, 0, none⟩ (.int .i64 k)).setCell ⟨g, 1, none⟩ (.int .i64 n)).setCell ⟨g, 2, none⟩ (.string t)).cell? ⟨g, 0, none⟩ = some (.int .i64 k) ∧
    (((w.setCell ⟨g, 0, none⟩ (.int .i64 k)).setCell ⟨g, 1, none⟩ (.int .i64 n)).setCell ⟨g, 2, none⟩ (.string t)).cell? ⟨g, 1, none⟩ = some (.int .i64 n) ∧
    (((w.setCell ⟨g, 0, none⟩ (.int .i64 k)).setCell ⟨g, 1, none⟩ (.int .i64 n)).setCell ⟨g, 2, none⟩ (.string t)).cell? ⟨g, 2, none⟩ = some (.string t) ∧
    (((w.setCell ⟨g, 0, none⟩ (.int .i64 k)).setCell ⟨g, 1, none⟩ (.int .i64 n)).setCell ⟨g, 2, none⟩ (.string t)).frozen? ⟨g, 0, none⟩ = false ∧
    (((w.setCell ⟨g, 0, none⟩ (.int .i64 k)).setCell ⟨g, 1, none⟩ (.int .i64 n)).setCell ⟨g, 2, none⟩ (.string t)).frozen? ⟨g, 1, none⟩ = false ∧
    (((w.setCell ⟨g, 0, none⟩ (.int .i64 k)).setCell ⟨g, 1, none⟩ (.int .i64 n)).setCell ⟨g, 2, none⟩ (.string t)).frozen? ⟨g, 2, none⟩ = false ∧
    (((w.setCell ⟨g, 0, none⟩ (.int .i64 k)).setCell ⟨g, 1, none⟩ (.int .i64 n)).setCell ⟨g, 2, none⟩ (.string t)).heap.size = w.heap.size := by
  refine ⟨by_trans (by_trans by_store by_store) by_store, ?_, ?_, ?_, by simpa using z0, by simpa using z1, by simpa using z2, by simp [World.setCell]⟩
  · rw [World.cell?_setCell_other _ _ _ _ (by simp), World.cell?_setCell_other _ _ _ _ (by simp)]; exact World.cell?_setCell_same _ _ _ s0
  · rw [World.cell?_setCell_other _ _ _ _ (by simp)]
    exact World.cell?_setCell_same _ _ _ (by rw [World.cell?_setCell_other _ _ _ _ (by simp)]; exact s1)
  · exact World.cell?_setCell_same _ _ _ (by rw [World.cell?_setCell_other _ _ _ _ (by simp), World.cell?_setCell_other _ _ _ _ (by simp)]; exact s2)
theorem Walking.moveA {w0 w : World} {ka kp kb kq : Nat} {va vb : Value} {A B : List V} {p q : Nat} (h : Walking w0 w ka kp kb kq va vb A B p q) (hp : p < A.length) : Walking w0 (w.setCell ⟨kp, 0, none⟩ (.int .i64 ((p + 1 : Nat) : Int))) ka kp kb kq va vb A B (p + 1) q :=
  { h with
    bel := h.bel.setCell h.zp _
    la := by simpa [World.setCell] using h.la
    lp := by simpa [World.setCell] using h.lp
    lb := by simpa [World.setCell] using h.lb
    lq := by simpa [World.setCell] using h.lq
    ca := by rw [World.cell?_setCell_other _ _ _ _ (by simp; first | exact h.n1.symm | exact h.n1)]; exact h.ca
    cp := World.cell?_setCell_same _ _ _ h.cp
    cb := by rw [World.cell?_setCell_other _ _ _ _ (by simp; first | exact h.n2.symm | exact h.n2)]; exact h.cb
    cq := by rw [World.cell?_setCell_other _ _ _ _ (by simp; first | exact h.n3.symm | exact h.n3)]; exact h.cq
    fp := by simpa using h.fp
    fq := by simpa using h.fq
    pA := hp }
theorem Walking.moveB {w0 w : World} {ka kp kb kq : Nat} {va vb : Value} {A B : List V} {p q : Nat} (h : Walking w0 w ka kp kb kq va vb A B p q) (hq : q < B.length) : Walking w0 (w.setCell ⟨kq, 0, none⟩ (.int .i64 ((q + 1 : Nat) : Int))) ka kp kb kq va vb A B p (q + 1) :=
  { h with
    bel := h.bel.setCell h.zq _
    la := by simpa [World.setCell] using h.la
    lp := by simpa [World.setCell] using h.lp
    lb := by simpa [World.setCell] using h.lb
    lq := by simpa [World.setCell] using h.lq
    ca := by rw [World.cell?_setCell_other _ _ _ _ (by simp; first | exact h.n4.symm | exact h.n4)]; exact h.ca
    cp := by rw [World.cell?_setCell_other _ _ _ _ (by simp; first | exact h.n3.symm | exact h.n3)]; exact h.cp
    cb := by rw [World.cell?_setCell_other _ _ _ _ (by simp; first | exact h.n5.symm | exact h.n5)]; exact h.cb
    cq := World.cell?_setCell_same _ _ _ h.cq
    fp := by simpa using h.fp
    fq := by simpa using h.fq
    qB := hq }
/-- What a step changes: the two counters alone, of what was there. -/
structure Moves (w w' : World) (kp kq : Nat) : Prop where
  os : w'.os = w.os
  tape : w'.tape = w.tape
  output : w'.output = w.output
  size : w.heap.size ≤ w'.heap.size
  block : ∀ k, k < w.heap.size → k ≠ kp → k ≠ kq → w'.heap[k]? = w.heap[k]?
theorem moves_put {w w4 w5 : World} {kp kq gp : Nat} (h : Moves w w4 kp kq) (hg : w4.grownBy w5 (some gp)) (hgp : w.heap.size ≤ gp) : Moves w w5 kp kq :=
  ⟨hg.os.trans h.os, hg.tape.trans h.tape, hg.output.trans h.output, Nat.le_trans h.size hg.size, fun k hk h1 h2 => (hg.block k (Nat.lt_of_lt_of_le hk h.size) (fun e => by cases e; omega)).trans (h.block k hk h1 h2)⟩
theorem moves_a {w w4 w5 : World} {kp kq : Nat} (h : Moves w w4 kp kq) (hg : w4.grownBy w5 (some kp)) : Moves w w5 kp kq :=
  ⟨hg.os.trans h.os, hg.tape.trans h.tape, hg.output.trans h.output, Nat.le_trans h.size hg.size, fun k hk h1 h2 => (hg.block k (Nat.lt_of_lt_of_le hk h.size) (fun e => by cases e; exact h1 rfl)).trans (h.block k hk h1 h2)⟩
theorem moves_b {w w4 w5 : World} {kp kq : Nat} (h : Moves w w4 kp kq) (hg : w4.grownBy w5 (some kq)) : Moves w w5 kp kq :=
  ⟨hg.os.trans h.os, hg.tape.trans h.tape, hg.output.trans h.output, Nat.le_trans h.size hg.size, fun k hk h1 h2 => (hg.block k (Nat.lt_of_lt_of_le hk h.size) (fun e => by cases e; exact h2 rfl)).trans (h.block k hk h1 h2)⟩
theorem moves_none {w w4 : World} {kp kq : Nat} (hg : w.grownBy w4 none) : Moves w w4 kp kq :=
  ⟨hg.os, hg.tape, hg.output, hg.size, fun k hk _ _ => hg.block k hk (by simp)⟩
theorem moves_drew {w w4 : World} {kp kq : Nat} (h : Moves w w4 kp kq) : Moves w w4.drew kp kq := ⟨h.os, h.tape, h.output, h.size, h.block⟩
/-- The step to an edge. -/
def StepOut (w0 w : World) (ka kp kb kq : Nat) (va vb : Value) (A B : List V) (x : V) (p q : Nat) (e : Ending) (w' : World) : Prop :=
  e = .returned (.tuple #[x.val, .bool (oddB p), .bool (oddB q), .bool true]) ∧ Walking w0 w' ka kp kb kq va vb A B p q ∧ Moves w w' kp kq
def EndOut (w0 w : World) (ka kp kb kq : Nat) (va vb : Value) (A B : List V) (p q : Nat) (e : Ending) (w' : World) : Prop :=
  e = .returned (.tuple #[V.val ⟨0, 0, ByteArray.empty⟩, .bool false, .bool false, .bool false]) ∧ Walking w0 w' ka kp kb kq va vb A B p q ∧ Moves w w' kp kq

set_option maxHeartbeats 1000000 in
set_option maxRecDepth 100000 in
theorem step_end (w0 w : World) (ka kp kb kq : Nat) (va vb : Value) (A B : List V) (p q : Nat) (h : Walking w0 w ka kp kb kq va vb A B p q) (hp : p = A.length) (hq : q = B.length) :
    Calls Try.prog 79 #[.pointer (some ⟨ka, 0, none⟩), .pointer (some ⟨kp, 0, none⟩), .pointer (some ⟨kb, 0, none⟩), .pointer (some ⟨kq, 0, none⟩)] w (EndOut w0 w ka kp kb kq va vb A B p q) := by
  have mx := mixed
  have H := Lib.hid h
  have k0 := h.ca
  have k1 := h.cp
  have k2 := h.cb
  have k3 := h.cq
  have l0 := h.la
  have l1 := h.lp
  have l2 := h.lb
  have l3 := h.lq
  obtain ⟨a1, c1, r1, m1⟩ := h.ra.from_ p h.pA
  obtain ⟨a2, c2, r2, m2⟩ := h.rb.from_ q h.qB
  have e1 : A.length - p = 0 := by omega
  have e2 : B.length - q = 0 := by omega
  rw [e1] at r1
  rw [e2] at r2
  clear h m1 m2 e1 e2 hp hq
  go_enter Try.func79, Try.ntmps79
  go_wp2_with fail
  go_quiet_grown (fail)
  go_wp2_with fail
  have hg : w.grownBy (Sort.grow ((w.alloc (vObj ⟨0, 0, ByteArray.empty⟩ 25)).drewN nq) osq) none := gro_by (((Gro.refl _).alloc _).grown _ _) none
  have s0 := cell_grown (w := w.alloc (vObj ⟨0, 0, ByteArray.empty⟩ 25)) (a := ⟨w.heap.size, 0, none⟩) (v := .int .i64 0) (by simp) (by go_simp) nq osq
  have s1 := cell_grown (w := w.alloc (vObj ⟨0, 0, ByteArray.empty⟩ 25)) (a := ⟨w.heap.size, 1, none⟩) (v := .int .i64 0) (by simp) (by go_simp) nq osq
  have s2 := cell_grown (w := w.alloc (vObj ⟨0, 0, ByteArray.empty⟩ 25)) (a := ⟨w.heap.size, 2, none⟩) (v := .string ByteArray.empty) (by simp) (by go_simp) nq osq
  exact bodyPost_ret (v := .tuple #[V.val ⟨0, 0, ByteArray.empty⟩, .bool false, .bool false, .bool false]) (by simp [results, Try.results79, go_sem, V.val]; try rfl) rfl ⟨rfl, H.out.kept hg (fun k hk => by cases hk), moves_none hg⟩

theorem by_drew' (w : World) (r : Option Nat) : w.grownBy w.drew r := ⟨rfl, rfl, rfl, Nat.le_refl _, fun _ _ _ => rfl⟩
set_option maxHeartbeats 2000000 in
set_option maxRecDepth 100000 in
theorem step_a (w0 w : World) (ka kp kb kq : Nat) (va vb : Value) (A B : List V) (p q : Nat) (h : Walking w0 w ka kp kb kq va vb A B p q) (x : V) (A' : List V) (hx : A.drop p = x :: A') (hd : cmpF (A.drop p) (B.drop q) < 0) :
    Calls Try.prog 79 #[.pointer (some ⟨ka, 0, none⟩), .pointer (some ⟨kp, 0, none⟩), .pointer (some ⟨kb, 0, none⟩), .pointer (some ⟨kq, 0, none⟩)] w (StepOut w0 w ka kp kb kq va vb A B x (p + 1) (q)) := by
  have mx := mixed
  have H := Lib.hid h
  have k0 := h.ca
  have k1 := h.cp
  have k2 := h.cb
  have k3 := h.cq
  have l0 := h.la
  have l1 := h.lp
  have l2 := h.lb
  have l3 := h.lq
  obtain ⟨a1, c1, r1, m1⟩ := h.ra.from_ p h.pA
  obtain ⟨a2, c2, r2, m2⟩ := h.rb.from_ q h.qB
  have hm63 : A.length ≤ 4398046511104 := by obtain ⟨_, _, _, _, _, h4, _⟩ := h.ra; exact h4
  have hm64 : B.length ≤ 4398046511104 := by obtain ⟨_, _, _, _, _, h4, _⟩ := h.rb; exact h4
  have hpl : p < A.length := by
    have : (A.drop p).length = A'.length + 1 := by rw [hx]; rfl
    simp at this; omega
  obtain ⟨n, hn⟩ : ∃ n, A.length - p = n + 1 := ⟨A.length - p - 1, by omega⟩
  have i1 : (0 : Int) < (n : Int) + 1 := by omega
  obtain ⟨m, hm⟩ : ∃ m, B.length - q = m := ⟨_, rfl⟩
  rw [hn] at r1 m1
  rw [hm] at r2 m2
  have e1 : ((n : Int) + 1 + (m : Int) == 0) = false := by simp; omega
  have e2 : (n : Int) + 1 + (m : Int) ≤ 9223372036854775807 := by omega
  have HC := Lib.hid (fun w' (hb : Below w0.heap.size w0 w') => compareFirst_calls _ _ _ _ w' (m1.later hb).row (m2.later hb).row)
  have hrow : ∃ g off, a1 = some ⟨g, off, none⟩ ∧ g < w0.heap.size ∧ At w0 g off x := by
    obtain ⟨pa, pc, hv, -, -, -, hh⟩ := m1
    rw [hx] at hh
    obtain ⟨g, off, rfl, hr⟩ := hh.resolve_left (by simp)
    simp only [Value.slice.injEq] at hv
    have := hr.at_ 0 (by simp)
    simp only [Nat.zero_mul, Nat.add_zero, List.getElem_cons_zero] at this
    exact ⟨g, off, hv.1, hr.blk, this⟩
  obtain ⟨g, off, rfl, hgl, hat⟩ := hrow
  have HAT := Lib.hid hat
  have HGL := Lib.hid hgl
  obtain ⟨d, hdd⟩ : ∃ d, cmpF (A.drop p) (B.drop q) = d := ⟨_, rfl⟩
  rw [hdd] at HC hd
  have d1 : decide (d ≤ 0) = true := by simp; omega
  have d2 : decide (0 ≤ d) = false := by simp; omega
  obtain ⟨P1, hP1⟩ : ∃ P1, P1 = p + 1 := ⟨_, rfl⟩
  obtain ⟨Q1, hQ1⟩ : ∃ Q1, Q1 = q := ⟨_, rfl⟩
  obtain ⟨a3, c3, r3⟩ := h.ra.to_ P1 (by have := h.pA; omega)
  obtain ⟨a4, c4, r4⟩ := h.rb.to_ Q1 (by have := h.qB; omega)
  have hi1 := inside_quiet a3 P1 c3 (by have := h.pA; omega)
  have hi2 := inside_quiet a4 Q1 c4 (by have := h.qB; omega)
  have HI1 := Lib.hid hi1
  have HI2 := Lib.hid hi2
  have R3 := Lib.hid r3
  have R4 := Lib.hid r4
  have hp64 : (p : Int) ≤ 4398046511104 := by have := h.pA; omega
  have hq64 : (q : Int) ≤ 4398046511104 := by have := h.qB; omega
  have HPL := Lib.hid hpl
  obtain ⟨xk, xn, xt⟩ := x
  have HP1 := Lib.hid hP1
  have HQ1 := Lib.hid hQ1
  clear h m1 m2 hdd hn hm r3 r4 hm63 hm64 hi1 hi2 hP1 hQ1 hx hat hgl hpl
  go_enter Try.func79, Try.ntmps79
  go_wp2_with fail
  go_quiet_grown (fail)
  go_wp2_with fail
  have hgr : Gro w (Sort.grow ((w.alloc (vObj ⟨0, 0, ByteArray.empty⟩ 25)).drewN nq) osq) := ((Gro.refl _).alloc _).grown _ _
  refine (HC.out _ (H.out.bel.trans (hgr.below.mono H.out.bel.size))).mono ?_
  rintro e w4 ⟨rfl, hg4⟩
  have hw4 : Gro w w4 := hgr.trans hg4
  have H4 := Lib.hid (H.out.kept (gro_by hw4 none) (fun k hk => by cases hk))
  have l4 : w.heap.size < w4.heap.size := by have := hg4.size; simp at this; omega
  have z4 : w4.frozen? ⟨w.heap.size, 0, none⟩ = false ∧ w4.frozen? ⟨w.heap.size, 1, none⟩ = false ∧ w4.frozen? ⟨w.heap.size, 2, none⟩ = false := by
    have hf : ∀ o, w4.frozen? ⟨w.heap.size, o, none⟩ = false := fun o => by
      rw [World.frozen?_of_block (w := (Sort.grow ((w.alloc (vObj ⟨0, 0, ByteArray.empty⟩ 25)).drewN nq) osq)) (hg4.below.block w.heap.size (by simp; omega))]
      go_simp
    exact ⟨hf 0, hf 1, hf 2⟩
  have t4 : w4.cell? ⟨w.heap.size, 0, none⟩ = some (.int .i64 0) ∧ w4.cell? ⟨w.heap.size, 1, none⟩ = some (.int .i64 0) ∧ w4.cell? ⟨w.heap.size, 2, none⟩ = some (.string ByteArray.empty) :=
    ⟨(hg4.below.cell (p := ⟨w.heap.size, 0, none⟩) (by simp; omega)).trans (cell_grown (by simp) (by go_simp) nq osq), (hg4.below.cell (p := ⟨w.heap.size, 1, none⟩) (by simp; omega)).trans (cell_grown (by simp) (by go_simp) nq osq), (hg4.below.cell (p := ⟨w.heap.size, 2, none⟩) (by simp; omega)).trans (cell_grown (by simp) (by go_simp) nq osq)⟩
  obtain ⟨z0, z1, z2⟩ := z4
  obtain ⟨s0, s1, s2⟩ := t4
  obtain ⟨x0, x1, x2⟩ := HAT.out.later HGL.out H4.out.bel
  simp only at x0 x1 x2
  have hgs : g < w4.heap.size := Nat.lt_of_lt_of_le HGL.out H4.out.bel.size
  have n6 : g ≠ w.heap.size := by have := H.out.bel.size; have := HGL.out; omega
  have n61 : g ≠ kp := by have := H.out.zp; have := HGL.out; omega
  have n62 : g ≠ kq := by have := H.out.zq; have := HGL.out; omega
  have q0 := H4.out.ca
  have q1 := H4.out.cp
  have q2 := H4.out.cb
  have q3 := H4.out.cq
  have q4 := H4.out.fp
  have q5 := H4.out.fq
  have l0' := H4.out.la
  have l1' := H4.out.lp
  have l2' := H4.out.lb
  have l3' := H4.out.lq
  have n1 := H4.out.n1
  have n2 := H4.out.n2
  have n3 := H4.out.n3
  have n3' := H4.out.n3.symm
  have n4 := H4.out.n4
  have n5 := H4.out.n5
  have n7 : kp ≠ w.heap.size := by omega
  have n8 : ka ≠ w.heap.size := by omega
  have n9 : kb ≠ w.heap.size := by omega
  have n10 : kq ≠ w.heap.size := by omega
  have HG4 := Lib.hid (gro_by hw4 none)
  have hz0 : w0.heap.size ≤ w.heap.size := H.out.bel.size
  have HZ0 := Lib.hid hz0
  clear k0 k1 k2 k3 l0 l1 l2 l3 hg4 hw4 hgr r1 r2 e1 e2 HC hz0 H
  generalize hgpe : w.heap.size = gp at *
  have HGP : Hid (w.heap.size ≤ gp) := by show _ ≤ _; rw [hgpe]; exact Nat.le_refl _
  clear hgpe
  go_wp2_with fail
  have HFR := Lib.hid (gro_by (Gro.refl w4) none)
  have HM4 : Hid (Moves w w4 kp kq) := moves_none HG4.out
  have hput5 := put3 w4 gp xk xn xt l4 z0 z1 z2 s0 s1 s2
  obtain ⟨w5, hw5⟩ : ∃ u, u = ((w4.setCell ⟨gp, 0, none⟩ (.int .i64 xk)).setCell ⟨gp, 1, none⟩ (.int .i64 xn)).setCell ⟨gp, 2, none⟩ (.string xt) := ⟨_, rfl⟩
  rw [← hw5] at hput5 ⊢
  obtain ⟨hby5, y50, y51, y52, v50, v51, v52, hs5⟩ := hput5
  have H5 := Lib.hid (H4.out.kept hby5 (fun k hk => by cases hk; exact ⟨HZ0.out, fun e => n8 e.symm, fun e => n7 e.symm, fun e => n9 e.symm, fun e => n10 e.symm⟩))
  have l5 : gp < w5.heap.size := by rw [hs5]; exact l4
  have HM5 : Hid (Moves w w5 kp kq) := moves_put HM4.out hby5 HGP.out
  clear hw5 hs5 hby5
  have hval6 : (p : Int) + 1 = (P1 : Int) := by have := HP1.out; omega
  rw [hval6]
  obtain ⟨w6, hw6⟩ : ∃ u, u = w5.setCell ⟨kp, 0, none⟩ (.int .i64 (P1 : Int)) := ⟨_, rfl⟩
  rw [← hw6]
  have hby6 : w5.grownBy w6 (some kp) := by rw [hw6]; exact by_store
  have H6 : Hid (Walking w0 w6 ka kp kb kq va vb A B P1 q) := by
    show Walking _ _ _ _ _ _ _ _ _ _ _ _
    rw [hw6, HP1.out]
    exact H5.out.moveA HPL.out
  have hne6 : some gp ≠ some kp := fun e => by cases e; exact n7 rfl
  have y60 := hby6.cell y50 hne6
  have y61 := hby6.cell y51 hne6
  have y62 := hby6.cell y52 hne6
  have v60 : w6.frozen? ⟨gp, 0, none⟩ = false := by rw [World.frozen?_of_block (w := w5) (hby6.block gp l5 hne6)]; exact v50
  have v61 : w6.frozen? ⟨gp, 1, none⟩ = false := by rw [World.frozen?_of_block (w := w5) (hby6.block gp l5 hne6)]; exact v51
  have v62 : w6.frozen? ⟨gp, 2, none⟩ = false := by rw [World.frozen?_of_block (w := w5) (hby6.block gp l5 hne6)]; exact v52
  have l6 := Nat.lt_of_lt_of_le l5 hby6.size
  have HM6 : Hid (Moves w w6 kp kq) := moves_a HM5.out hby6
  clear hw6 hby6 hval6
  have HW : Hid (Walking w0 w6 ka kp kb kq va vb A B P1 Q1) := by
    show Walking _ _ _ _ _ _ _ _ _ _ _ _
    have h := H6.out
    skip
    rw [show Q1 = q from HQ1.out]
    exact h
  have g0 := HW.out.ca
  have g1 := HW.out.cp
  have g2' := HW.out.cb
  have g3 := HW.out.cq
  have m0 := HW.out.la
  have m1 := HW.out.lp
  have m2 := HW.out.lb
  have m3 := HW.out.lq
  have r3 := R3.out
  have r4 := R4.out
  have hi1 := HI1.out
  have hi2 := HI2.out
  obtain ⟨o0, o1, o2⟩ : w6.cell? ⟨gp, 0, none⟩ = some (.int .i64 xk) ∧ w6.cell? ⟨gp, 1, none⟩ = some (.int .i64 xn) ∧ w6.cell? ⟨gp, 2, none⟩ = some (.string xt) := ⟨y60, y61, y62⟩
  obtain ⟨j0, j1, j2⟩ : w6.frozen? ⟨gp, 0, none⟩ = false ∧ w6.frozen? ⟨gp, 1, none⟩ = false ∧ w6.frozen? ⟨gp, 2, none⟩ = false := ⟨v60, v61, v62⟩
  have lz := l6
  have HMV := HM6
  have N8 := Lib.hid n8
  clear q0 q1 q2 q3 q4 q5 l0' l1' l2' l3' s0 s1 s2 z0 z1 z2 l4 hp64 hq64 y50 y51 y52 v50 v51 v52 l5 y60 y61 y62 v60 v61 v62 l6 x0 x1 x2 hgs n6 n61 n62 i1 d1 d2 hd
  refine still_tail_drew 9 mx (by kernel_rfl) ?_
  simp only [List.take_succ_cons, List.take_zero, List.drop_succ_cons, List.drop_zero]
  repeat still_step
  still_call (hi1 _)
  repeat still_step
  still_call (hi2 _)
  repeat still_step
  refine wpStill_nil ?_
  go_wp2_with fail
  have hput := put3 w6 gp xk xn xt lz j0 j1 j2 o0 o1 o2
  obtain ⟨wf, hwf⟩ : ∃ u, u = ((w6.setCell ⟨gp, 0, none⟩ (.int .i64 xk)).setCell ⟨gp, 1, none⟩ (.int .i64 xn)).setCell ⟨gp, 2, none⟩ (.string xt) := ⟨_, rfl⟩
  rw [← hwf] at hput ⊢
  obtain ⟨hbyf, e0, e1, e2, -, -, -, -⟩ := hput
  have HF := Lib.hid ((HW.out.kept hbyf (fun k hk => by cases hk; exact ⟨HZ0.out, fun e => N8.out e.symm, fun e => n7 e.symm, fun e => n9 e.symm, fun e => n10 e.symm⟩)).kept (by_drew' wf none) (fun k hk => by cases hk))
  have HMF := Lib.hid (moves_drew (moves_put HMV.out hbyf HGP.out))
  rw [← HP1.out, ← HQ1.out]
  exact bodyPost_ret (v := .tuple #[V.val ⟨xk, xn, xt⟩, .bool (oddB P1), .bool (oddB Q1), .bool true]) (by simp [results, Try.results79, go_sem, V.val, e0, e1, e2]; try rfl) rfl ⟨rfl, HF.out, HMF.out⟩
set_option maxHeartbeats 2000000 in
set_option maxRecDepth 100000 in
theorem step_b (w0 w : World) (ka kp kb kq : Nat) (va vb : Value) (A B : List V) (p q : Nat) (h : Walking w0 w ka kp kb kq va vb A B p q) (y : V) (B' : List V) (hy : B.drop q = y :: B') (hd : cmpF (A.drop p) (B.drop q) > 0) :
    Calls Try.prog 79 #[.pointer (some ⟨ka, 0, none⟩), .pointer (some ⟨kp, 0, none⟩), .pointer (some ⟨kb, 0, none⟩), .pointer (some ⟨kq, 0, none⟩)] w (StepOut w0 w ka kp kb kq va vb A B y (p) (q + 1)) := by
  have mx := mixed
  have H := Lib.hid h
  have k0 := h.ca
  have k1 := h.cp
  have k2 := h.cb
  have k3 := h.cq
  have l0 := h.la
  have l1 := h.lp
  have l2 := h.lb
  have l3 := h.lq
  obtain ⟨a1, c1, r1, m1⟩ := h.ra.from_ p h.pA
  obtain ⟨a2, c2, r2, m2⟩ := h.rb.from_ q h.qB
  have hm63 : A.length ≤ 4398046511104 := by obtain ⟨_, _, _, _, _, h4, _⟩ := h.ra; exact h4
  have hm64 : B.length ≤ 4398046511104 := by obtain ⟨_, _, _, _, _, h4, _⟩ := h.rb; exact h4
  obtain ⟨n, hn⟩ : ∃ n, A.length - p = n := ⟨_, rfl⟩
  have hql : q < B.length := by
    have : (B.drop q).length = B'.length + 1 := by rw [hy]; rfl
    simp at this; omega
  obtain ⟨m, hm⟩ : ∃ m, B.length - q = m + 1 := ⟨B.length - q - 1, by omega⟩
  have i2 : (0 : Int) < (m : Int) + 1 := by omega
  rw [hn] at r1 m1
  rw [hm] at r2 m2
  have e1 : ((n : Int) + ((m : Int) + 1) == 0) = false := by simp; omega
  have e2 : (n : Int) + ((m : Int) + 1) ≤ 9223372036854775807 := by omega
  have HC := Lib.hid (fun w' (hb : Below w0.heap.size w0 w') => compareFirst_calls _ _ _ _ w' (m1.later hb).row (m2.later hb).row)
  have hrow2 : ∃ g off, a2 = some ⟨g, off, none⟩ ∧ g < w0.heap.size ∧ At w0 g off y := by
    obtain ⟨pa, pc, hv, -, -, -, hh⟩ := m2
    rw [hy] at hh
    obtain ⟨g, off, rfl, hr⟩ := hh.resolve_left (by simp)
    simp only [Value.slice.injEq] at hv
    have := hr.at_ 0 (by simp)
    simp only [Nat.zero_mul, Nat.add_zero, List.getElem_cons_zero] at this
    exact ⟨g, off, hv.1, hr.blk, this⟩
  obtain ⟨g2, of2, rfl, hgl2, hat2⟩ := hrow2
  have HAT2 := Lib.hid hat2
  have HGL2 := Lib.hid hgl2
  obtain ⟨d, hdd⟩ : ∃ d, cmpF (A.drop p) (B.drop q) = d := ⟨_, rfl⟩
  rw [hdd] at HC hd
  have d1 : decide (d ≤ 0) = false := by simp; omega
  have d2 : decide (0 ≤ d) = true := by simp; omega
  obtain ⟨P1, hP1⟩ : ∃ P1, P1 = p := ⟨_, rfl⟩
  obtain ⟨Q1, hQ1⟩ : ∃ Q1, Q1 = q + 1 := ⟨_, rfl⟩
  obtain ⟨a3, c3, r3⟩ := h.ra.to_ P1 (by have := h.pA; omega)
  obtain ⟨a4, c4, r4⟩ := h.rb.to_ Q1 (by have := h.qB; omega)
  have hi1 := inside_quiet a3 P1 c3 (by have := h.pA; omega)
  have hi2 := inside_quiet a4 Q1 c4 (by have := h.qB; omega)
  have HI1 := Lib.hid hi1
  have HI2 := Lib.hid hi2
  have R3 := Lib.hid r3
  have R4 := Lib.hid r4
  have hp64 : (p : Int) ≤ 4398046511104 := by have := h.pA; omega
  have hq64 : (q : Int) ≤ 4398046511104 := by have := h.qB; omega
  have HQL := Lib.hid hql
  obtain ⟨yk, yn, yt⟩ := y
  have HP1 := Lib.hid hP1
  have HQ1 := Lib.hid hQ1
  clear h m1 m2 hdd hn hm r3 r4 hm63 hm64 hi1 hi2 hP1 hQ1 hy hat2 hgl2 hql
  go_enter Try.func79, Try.ntmps79
  go_wp2_with fail
  go_quiet_grown (fail)
  go_wp2_with fail
  have hgr : Gro w (Sort.grow ((w.alloc (vObj ⟨0, 0, ByteArray.empty⟩ 25)).drewN nq) osq) := ((Gro.refl _).alloc _).grown _ _
  refine (HC.out _ (H.out.bel.trans (hgr.below.mono H.out.bel.size))).mono ?_
  rintro e w4 ⟨rfl, hg4⟩
  have hw4 : Gro w w4 := hgr.trans hg4
  have H4 := Lib.hid (H.out.kept (gro_by hw4 none) (fun k hk => by cases hk))
  have l4 : w.heap.size < w4.heap.size := by have := hg4.size; simp at this; omega
  have z4 : w4.frozen? ⟨w.heap.size, 0, none⟩ = false ∧ w4.frozen? ⟨w.heap.size, 1, none⟩ = false ∧ w4.frozen? ⟨w.heap.size, 2, none⟩ = false := by
    have hf : ∀ o, w4.frozen? ⟨w.heap.size, o, none⟩ = false := fun o => by
      rw [World.frozen?_of_block (w := (Sort.grow ((w.alloc (vObj ⟨0, 0, ByteArray.empty⟩ 25)).drewN nq) osq)) (hg4.below.block w.heap.size (by simp; omega))]
      go_simp
    exact ⟨hf 0, hf 1, hf 2⟩
  have t4 : w4.cell? ⟨w.heap.size, 0, none⟩ = some (.int .i64 0) ∧ w4.cell? ⟨w.heap.size, 1, none⟩ = some (.int .i64 0) ∧ w4.cell? ⟨w.heap.size, 2, none⟩ = some (.string ByteArray.empty) :=
    ⟨(hg4.below.cell (p := ⟨w.heap.size, 0, none⟩) (by simp; omega)).trans (cell_grown (by simp) (by go_simp) nq osq), (hg4.below.cell (p := ⟨w.heap.size, 1, none⟩) (by simp; omega)).trans (cell_grown (by simp) (by go_simp) nq osq), (hg4.below.cell (p := ⟨w.heap.size, 2, none⟩) (by simp; omega)).trans (cell_grown (by simp) (by go_simp) nq osq)⟩
  obtain ⟨z0, z1, z2⟩ := z4
  obtain ⟨s0, s1, s2⟩ := t4
  obtain ⟨u0, u1, u2⟩ := HAT2.out.later HGL2.out H4.out.bel
  simp only at u0 u1 u2
  have hgs2 : g2 < w4.heap.size := Nat.lt_of_lt_of_le HGL2.out H4.out.bel.size
  have n16 : g2 ≠ w.heap.size := by have := H.out.bel.size; have := HGL2.out; omega
  have n161 : g2 ≠ kp := by have := H.out.zp; have := HGL2.out; omega
  have n162 : g2 ≠ kq := by have := H.out.zq; have := HGL2.out; omega
  have q0 := H4.out.ca
  have q1 := H4.out.cp
  have q2 := H4.out.cb
  have q3 := H4.out.cq
  have q4 := H4.out.fp
  have q5 := H4.out.fq
  have l0' := H4.out.la
  have l1' := H4.out.lp
  have l2' := H4.out.lb
  have l3' := H4.out.lq
  have n1 := H4.out.n1
  have n2 := H4.out.n2
  have n3 := H4.out.n3
  have n3' := H4.out.n3.symm
  have n4 := H4.out.n4
  have n5 := H4.out.n5
  have n7 : kp ≠ w.heap.size := by omega
  have n8 : ka ≠ w.heap.size := by omega
  have n9 : kb ≠ w.heap.size := by omega
  have n10 : kq ≠ w.heap.size := by omega
  have HG4 := Lib.hid (gro_by hw4 none)
  have hz0 : w0.heap.size ≤ w.heap.size := H.out.bel.size
  have HZ0 := Lib.hid hz0
  clear k0 k1 k2 k3 l0 l1 l2 l3 hg4 hw4 hgr r1 r2 e1 e2 HC hz0 H
  generalize hgpe : w.heap.size = gp at *
  have HGP : Hid (w.heap.size ≤ gp) := by show _ ≤ _; rw [hgpe]; exact Nat.le_refl _
  clear hgpe
  go_wp2_with fail
  have HFR := Lib.hid (gro_by (Gro.refl w4) none)
  have HM4 : Hid (Moves w w4 kp kq) := moves_none HG4.out
  have hput5 := put3 w4 gp yk yn yt l4 z0 z1 z2 s0 s1 s2
  obtain ⟨w5, hw5⟩ : ∃ u, u = ((w4.setCell ⟨gp, 0, none⟩ (.int .i64 yk)).setCell ⟨gp, 1, none⟩ (.int .i64 yn)).setCell ⟨gp, 2, none⟩ (.string yt) := ⟨_, rfl⟩
  rw [← hw5] at hput5 ⊢
  obtain ⟨hby5, y50, y51, y52, v50, v51, v52, hs5⟩ := hput5
  have H5 := Lib.hid (H4.out.kept hby5 (fun k hk => by cases hk; exact ⟨HZ0.out, fun e => n8 e.symm, fun e => n7 e.symm, fun e => n9 e.symm, fun e => n10 e.symm⟩))
  have l5 : gp < w5.heap.size := by rw [hs5]; exact l4
  have HM5 : Hid (Moves w w5 kp kq) := moves_put HM4.out hby5 HGP.out
  clear hw5 hs5 hby5
  have hval6 : (q : Int) + 1 = (Q1 : Int) := by have := HQ1.out; omega
  rw [hval6]
  obtain ⟨w6, hw6⟩ : ∃ u, u = w5.setCell ⟨kq, 0, none⟩ (.int .i64 (Q1 : Int)) := ⟨_, rfl⟩
  rw [← hw6]
  have hby6 : w5.grownBy w6 (some kq) := by rw [hw6]; exact by_store
  have H6 : Hid (Walking w0 w6 ka kp kb kq va vb A B p Q1) := by
    show Walking _ _ _ _ _ _ _ _ _ _ _ _
    rw [hw6, HQ1.out]
    exact H5.out.moveB HQL.out
  have hne6 : some gp ≠ some kq := fun e => by cases e; exact n10 rfl
  have y60 := hby6.cell y50 hne6
  have y61 := hby6.cell y51 hne6
  have y62 := hby6.cell y52 hne6
  have v60 : w6.frozen? ⟨gp, 0, none⟩ = false := by rw [World.frozen?_of_block (w := w5) (hby6.block gp l5 hne6)]; exact v50
  have v61 : w6.frozen? ⟨gp, 1, none⟩ = false := by rw [World.frozen?_of_block (w := w5) (hby6.block gp l5 hne6)]; exact v51
  have v62 : w6.frozen? ⟨gp, 2, none⟩ = false := by rw [World.frozen?_of_block (w := w5) (hby6.block gp l5 hne6)]; exact v52
  have l6 := Nat.lt_of_lt_of_le l5 hby6.size
  have HM6 : Hid (Moves w w6 kp kq) := moves_b HM5.out hby6
  clear hw6 hby6 hval6
  have HW : Hid (Walking w0 w6 ka kp kb kq va vb A B P1 Q1) := by
    show Walking _ _ _ _ _ _ _ _ _ _ _ _
    have h := H6.out
    rw [show P1 = p from HP1.out]
    skip
    exact h
  have g0 := HW.out.ca
  have g1 := HW.out.cp
  have g2' := HW.out.cb
  have g3 := HW.out.cq
  have m0 := HW.out.la
  have m1 := HW.out.lp
  have m2 := HW.out.lb
  have m3 := HW.out.lq
  have r3 := R3.out
  have r4 := R4.out
  have hi1 := HI1.out
  have hi2 := HI2.out
  obtain ⟨o0, o1, o2⟩ : w6.cell? ⟨gp, 0, none⟩ = some (.int .i64 yk) ∧ w6.cell? ⟨gp, 1, none⟩ = some (.int .i64 yn) ∧ w6.cell? ⟨gp, 2, none⟩ = some (.string yt) := ⟨y60, y61, y62⟩
  obtain ⟨j0, j1, j2⟩ : w6.frozen? ⟨gp, 0, none⟩ = false ∧ w6.frozen? ⟨gp, 1, none⟩ = false ∧ w6.frozen? ⟨gp, 2, none⟩ = false := ⟨v60, v61, v62⟩
  have lz := l6
  have HMV := HM6
  have N8 := Lib.hid n8
  clear q0 q1 q2 q3 q4 q5 l0' l1' l2' l3' s0 s1 s2 z0 z1 z2 l4 hp64 hq64 y50 y51 y52 v50 v51 v52 l5 y60 y61 y62 v60 v61 v62 l6 u0 u1 u2 hgs2 n16 n161 n162 i2 d1 d2 hd
  refine still_tail_drew 9 mx (by kernel_rfl) ?_
  simp only [List.take_succ_cons, List.take_zero, List.drop_succ_cons, List.drop_zero]
  repeat still_step
  still_call (hi1 _)
  repeat still_step
  still_call (hi2 _)
  repeat still_step
  refine wpStill_nil ?_
  go_wp2_with fail
  have hput := put3 w6 gp yk yn yt lz j0 j1 j2 o0 o1 o2
  obtain ⟨wf, hwf⟩ : ∃ u, u = ((w6.setCell ⟨gp, 0, none⟩ (.int .i64 yk)).setCell ⟨gp, 1, none⟩ (.int .i64 yn)).setCell ⟨gp, 2, none⟩ (.string yt) := ⟨_, rfl⟩
  rw [← hwf] at hput ⊢
  obtain ⟨hbyf, e0, e1, e2, -, -, -, -⟩ := hput
  have HF := Lib.hid ((HW.out.kept hbyf (fun k hk => by cases hk; exact ⟨HZ0.out, fun e => N8.out e.symm, fun e => n7 e.symm, fun e => n9 e.symm, fun e => n10 e.symm⟩)).kept (by_drew' wf none) (fun k hk => by cases hk))
  have HMF := Lib.hid (moves_drew (moves_put HMV.out hbyf HGP.out))
  rw [← HP1.out, ← HQ1.out]
  exact bodyPost_ret (v := .tuple #[V.val ⟨yk, yn, yt⟩, .bool (oddB P1), .bool (oddB Q1), .bool true]) (by simp [results, Try.results79, go_sem, V.val, e0, e1, e2]; try rfl) rfl ⟨rfl, HF.out, HMF.out⟩
set_option maxHeartbeats 2000000 in
set_option maxRecDepth 100000 in
theorem step_both (w0 w : World) (ka kp kb kq : Nat) (va vb : Value) (A B : List V) (p q : Nat) (h : Walking w0 w ka kp kb kq va vb A B p q) (x : V) (A' : List V) (hx : A.drop p = x :: A') (y : V) (B' : List V) (hy : B.drop q = y :: B') (hd : cmpF (A.drop p) (B.drop q) = 0) :
    Calls Try.prog 79 #[.pointer (some ⟨ka, 0, none⟩), .pointer (some ⟨kp, 0, none⟩), .pointer (some ⟨kb, 0, none⟩), .pointer (some ⟨kq, 0, none⟩)] w (StepOut w0 w ka kp kb kq va vb A B y (p + 1) (q + 1)) := by
  have mx := mixed
  have H := Lib.hid h
  have k0 := h.ca
  have k1 := h.cp
  have k2 := h.cb
  have k3 := h.cq
  have l0 := h.la
  have l1 := h.lp
  have l2 := h.lb
  have l3 := h.lq
  obtain ⟨a1, c1, r1, m1⟩ := h.ra.from_ p h.pA
  obtain ⟨a2, c2, r2, m2⟩ := h.rb.from_ q h.qB
  have hm63 : A.length ≤ 4398046511104 := by obtain ⟨_, _, _, _, _, h4, _⟩ := h.ra; exact h4
  have hm64 : B.length ≤ 4398046511104 := by obtain ⟨_, _, _, _, _, h4, _⟩ := h.rb; exact h4
  have hpl : p < A.length := by
    have : (A.drop p).length = A'.length + 1 := by rw [hx]; rfl
    simp at this; omega
  obtain ⟨n, hn⟩ : ∃ n, A.length - p = n + 1 := ⟨A.length - p - 1, by omega⟩
  have i1 : (0 : Int) < (n : Int) + 1 := by omega
  have hql : q < B.length := by
    have : (B.drop q).length = B'.length + 1 := by rw [hy]; rfl
    simp at this; omega
  obtain ⟨m, hm⟩ : ∃ m, B.length - q = m + 1 := ⟨B.length - q - 1, by omega⟩
  have i2 : (0 : Int) < (m : Int) + 1 := by omega
  rw [hn] at r1 m1
  rw [hm] at r2 m2
  have e1 : ((n : Int) + 1 + ((m : Int) + 1) == 0) = false := by simp; omega
  have e2 : (n : Int) + 1 + ((m : Int) + 1) ≤ 9223372036854775807 := by omega
  have HC := Lib.hid (fun w' (hb : Below w0.heap.size w0 w') => compareFirst_calls _ _ _ _ w' (m1.later hb).row (m2.later hb).row)
  have hrow : ∃ g off, a1 = some ⟨g, off, none⟩ ∧ g < w0.heap.size ∧ At w0 g off x := by
    obtain ⟨pa, pc, hv, -, -, -, hh⟩ := m1
    rw [hx] at hh
    obtain ⟨g, off, rfl, hr⟩ := hh.resolve_left (by simp)
    simp only [Value.slice.injEq] at hv
    have := hr.at_ 0 (by simp)
    simp only [Nat.zero_mul, Nat.add_zero, List.getElem_cons_zero] at this
    exact ⟨g, off, hv.1, hr.blk, this⟩
  obtain ⟨g, off, rfl, hgl, hat⟩ := hrow
  have HAT := Lib.hid hat
  have HGL := Lib.hid hgl
  have hrow2 : ∃ g off, a2 = some ⟨g, off, none⟩ ∧ g < w0.heap.size ∧ At w0 g off y := by
    obtain ⟨pa, pc, hv, -, -, -, hh⟩ := m2
    rw [hy] at hh
    obtain ⟨g, off, rfl, hr⟩ := hh.resolve_left (by simp)
    simp only [Value.slice.injEq] at hv
    have := hr.at_ 0 (by simp)
    simp only [Nat.zero_mul, Nat.add_zero, List.getElem_cons_zero] at this
    exact ⟨g, off, hv.1, hr.blk, this⟩
  obtain ⟨g2, of2, rfl, hgl2, hat2⟩ := hrow2
  have HAT2 := Lib.hid hat2
  have HGL2 := Lib.hid hgl2
  obtain ⟨d, hdd⟩ : ∃ d, cmpF (A.drop p) (B.drop q) = d := ⟨_, rfl⟩
  rw [hdd] at HC hd
  subst hd
  obtain ⟨P1, hP1⟩ : ∃ P1, P1 = p + 1 := ⟨_, rfl⟩
  obtain ⟨Q1, hQ1⟩ : ∃ Q1, Q1 = q + 1 := ⟨_, rfl⟩
  obtain ⟨a3, c3, r3⟩ := h.ra.to_ P1 (by have := h.pA; omega)
  obtain ⟨a4, c4, r4⟩ := h.rb.to_ Q1 (by have := h.qB; omega)
  have hi1 := inside_quiet a3 P1 c3 (by have := h.pA; omega)
  have hi2 := inside_quiet a4 Q1 c4 (by have := h.qB; omega)
  have HI1 := Lib.hid hi1
  have HI2 := Lib.hid hi2
  have R3 := Lib.hid r3
  have R4 := Lib.hid r4
  have hp64 : (p : Int) ≤ 4398046511104 := by have := h.pA; omega
  have hq64 : (q : Int) ≤ 4398046511104 := by have := h.qB; omega
  have HPL := Lib.hid hpl
  obtain ⟨xk, xn, xt⟩ := x
  have HQL := Lib.hid hql
  obtain ⟨yk, yn, yt⟩ := y
  have HP1 := Lib.hid hP1
  have HQ1 := Lib.hid hQ1
  clear h m1 m2 hdd hn hm r3 r4 hm63 hm64 hi1 hi2 hP1 hQ1 hx hat hgl hpl hy hat2 hgl2 hql
  go_enter Try.func79, Try.ntmps79
  go_wp2_with fail
  go_quiet_grown (fail)
  go_wp2_with fail
  have hgr : Gro w (Sort.grow ((w.alloc (vObj ⟨0, 0, ByteArray.empty⟩ 25)).drewN nq) osq) := ((Gro.refl _).alloc _).grown _ _
  refine (HC.out _ (H.out.bel.trans (hgr.below.mono H.out.bel.size))).mono ?_
  rintro e w4 ⟨rfl, hg4⟩
  have hw4 : Gro w w4 := hgr.trans hg4
  have H4 := Lib.hid (H.out.kept (gro_by hw4 none) (fun k hk => by cases hk))
  have l4 : w.heap.size < w4.heap.size := by have := hg4.size; simp at this; omega
  have z4 : w4.frozen? ⟨w.heap.size, 0, none⟩ = false ∧ w4.frozen? ⟨w.heap.size, 1, none⟩ = false ∧ w4.frozen? ⟨w.heap.size, 2, none⟩ = false := by
    have hf : ∀ o, w4.frozen? ⟨w.heap.size, o, none⟩ = false := fun o => by
      rw [World.frozen?_of_block (w := (Sort.grow ((w.alloc (vObj ⟨0, 0, ByteArray.empty⟩ 25)).drewN nq) osq)) (hg4.below.block w.heap.size (by simp; omega))]
      go_simp
    exact ⟨hf 0, hf 1, hf 2⟩
  have t4 : w4.cell? ⟨w.heap.size, 0, none⟩ = some (.int .i64 0) ∧ w4.cell? ⟨w.heap.size, 1, none⟩ = some (.int .i64 0) ∧ w4.cell? ⟨w.heap.size, 2, none⟩ = some (.string ByteArray.empty) :=
    ⟨(hg4.below.cell (p := ⟨w.heap.size, 0, none⟩) (by simp; omega)).trans (cell_grown (by simp) (by go_simp) nq osq), (hg4.below.cell (p := ⟨w.heap.size, 1, none⟩) (by simp; omega)).trans (cell_grown (by simp) (by go_simp) nq osq), (hg4.below.cell (p := ⟨w.heap.size, 2, none⟩) (by simp; omega)).trans (cell_grown (by simp) (by go_simp) nq osq)⟩
  obtain ⟨z0, z1, z2⟩ := z4
  obtain ⟨s0, s1, s2⟩ := t4
  obtain ⟨x0, x1, x2⟩ := HAT.out.later HGL.out H4.out.bel
  simp only at x0 x1 x2
  have hgs : g < w4.heap.size := Nat.lt_of_lt_of_le HGL.out H4.out.bel.size
  have n6 : g ≠ w.heap.size := by have := H.out.bel.size; have := HGL.out; omega
  have n61 : g ≠ kp := by have := H.out.zp; have := HGL.out; omega
  have n62 : g ≠ kq := by have := H.out.zq; have := HGL.out; omega
  obtain ⟨u0, u1, u2⟩ := HAT2.out.later HGL2.out H4.out.bel
  simp only at u0 u1 u2
  have hgs2 : g2 < w4.heap.size := Nat.lt_of_lt_of_le HGL2.out H4.out.bel.size
  have n16 : g2 ≠ w.heap.size := by have := H.out.bel.size; have := HGL2.out; omega
  have n161 : g2 ≠ kp := by have := H.out.zp; have := HGL2.out; omega
  have n162 : g2 ≠ kq := by have := H.out.zq; have := HGL2.out; omega
  have q0 := H4.out.ca
  have q1 := H4.out.cp
  have q2 := H4.out.cb
  have q3 := H4.out.cq
  have q4 := H4.out.fp
  have q5 := H4.out.fq
  have l0' := H4.out.la
  have l1' := H4.out.lp
  have l2' := H4.out.lb
  have l3' := H4.out.lq
  have n1 := H4.out.n1
  have n2 := H4.out.n2
  have n3 := H4.out.n3
  have n3' := H4.out.n3.symm
  have n4 := H4.out.n4
  have n5 := H4.out.n5
  have n7 : kp ≠ w.heap.size := by omega
  have n8 : ka ≠ w.heap.size := by omega
  have n9 : kb ≠ w.heap.size := by omega
  have n10 : kq ≠ w.heap.size := by omega
  have HG4 := Lib.hid (gro_by hw4 none)
  have hz0 : w0.heap.size ≤ w.heap.size := H.out.bel.size
  have HZ0 := Lib.hid hz0
  clear k0 k1 k2 k3 l0 l1 l2 l3 hg4 hw4 hgr r1 r2 e1 e2 HC hz0 H
  generalize hgpe : w.heap.size = gp at *
  have HGP : Hid (w.heap.size ≤ gp) := by show _ ≤ _; rw [hgpe]; exact Nat.le_refl _
  clear hgpe
  go_wp2_with fail
  have HFR := Lib.hid (gro_by (Gro.refl w4) none)
  have HM4 : Hid (Moves w w4 kp kq) := moves_none HG4.out
  have hput5 := put3 w4 gp xk xn xt l4 z0 z1 z2 s0 s1 s2
  obtain ⟨w5, hw5⟩ : ∃ u, u = ((w4.setCell ⟨gp, 0, none⟩ (.int .i64 xk)).setCell ⟨gp, 1, none⟩ (.int .i64 xn)).setCell ⟨gp, 2, none⟩ (.string xt) := ⟨_, rfl⟩
  rw [← hw5] at hput5 ⊢
  obtain ⟨hby5, y50, y51, y52, v50, v51, v52, hs5⟩ := hput5
  have H5 := Lib.hid (H4.out.kept hby5 (fun k hk => by cases hk; exact ⟨HZ0.out, fun e => n8 e.symm, fun e => n7 e.symm, fun e => n9 e.symm, fun e => n10 e.symm⟩))
  have l5 : gp < w5.heap.size := by rw [hs5]; exact l4
  have HM5 : Hid (Moves w w5 kp kq) := moves_put HM4.out hby5 HGP.out
  clear hw5 hs5 hby5
  have hval6 : (p : Int) + 1 = (P1 : Int) := by have := HP1.out; omega
  rw [hval6]
  obtain ⟨w6, hw6⟩ : ∃ u, u = w5.setCell ⟨kp, 0, none⟩ (.int .i64 (P1 : Int)) := ⟨_, rfl⟩
  rw [← hw6]
  have hby6 : w5.grownBy w6 (some kp) := by rw [hw6]; exact by_store
  have H6 : Hid (Walking w0 w6 ka kp kb kq va vb A B P1 q) := by
    show Walking _ _ _ _ _ _ _ _ _ _ _ _
    rw [hw6, HP1.out]
    exact H5.out.moveA HPL.out
  have hne6 : some gp ≠ some kp := fun e => by cases e; exact n7 rfl
  have y60 := hby6.cell y50 hne6
  have y61 := hby6.cell y51 hne6
  have y62 := hby6.cell y52 hne6
  have v60 : w6.frozen? ⟨gp, 0, none⟩ = false := by rw [World.frozen?_of_block (w := w5) (hby6.block gp l5 hne6)]; exact v50
  have v61 : w6.frozen? ⟨gp, 1, none⟩ = false := by rw [World.frozen?_of_block (w := w5) (hby6.block gp l5 hne6)]; exact v51
  have v62 : w6.frozen? ⟨gp, 2, none⟩ = false := by rw [World.frozen?_of_block (w := w5) (hby6.block gp l5 hne6)]; exact v52
  have l6 := Nat.lt_of_lt_of_le l5 hby6.size
  have HM6 : Hid (Moves w w6 kp kq) := moves_a HM5.out hby6
  clear hw6 hby6 hval6
  have hput7 := put3 w6 gp yk yn yt l6 v60 v61 v62 y60 y61 y62
  obtain ⟨w7, hw7⟩ : ∃ u, u = ((w6.setCell ⟨gp, 0, none⟩ (.int .i64 yk)).setCell ⟨gp, 1, none⟩ (.int .i64 yn)).setCell ⟨gp, 2, none⟩ (.string yt) := ⟨_, rfl⟩
  rw [← hw7] at hput7 ⊢
  obtain ⟨hby7, y70, y71, y72, v70, v71, v72, hs7⟩ := hput7
  have H7 := Lib.hid (H6.out.kept hby7 (fun k hk => by cases hk; exact ⟨HZ0.out, fun e => n8 e.symm, fun e => n7 e.symm, fun e => n9 e.symm, fun e => n10 e.symm⟩))
  have l7 : gp < w7.heap.size := by rw [hs7]; exact l6
  have HM7 : Hid (Moves w w7 kp kq) := moves_put HM6.out hby7 HGP.out
  clear hw7 hs7 hby7
  have hval8 : (q : Int) + 1 = (Q1 : Int) := by have := HQ1.out; omega
  rw [hval8]
  obtain ⟨w8, hw8⟩ : ∃ u, u = w7.setCell ⟨kq, 0, none⟩ (.int .i64 (Q1 : Int)) := ⟨_, rfl⟩
  rw [← hw8]
  have hby8 : w7.grownBy w8 (some kq) := by rw [hw8]; exact by_store
  have H8 : Hid (Walking w0 w8 ka kp kb kq va vb A B P1 Q1) := by
    show Walking _ _ _ _ _ _ _ _ _ _ _ _
    rw [hw8, HQ1.out]
    exact H7.out.moveB HQL.out
  have hne8 : some gp ≠ some kq := fun e => by cases e; exact n10 rfl
  have y80 := hby8.cell y70 hne8
  have y81 := hby8.cell y71 hne8
  have y82 := hby8.cell y72 hne8
  have v80 : w8.frozen? ⟨gp, 0, none⟩ = false := by rw [World.frozen?_of_block (w := w7) (hby8.block gp l7 hne8)]; exact v70
  have v81 : w8.frozen? ⟨gp, 1, none⟩ = false := by rw [World.frozen?_of_block (w := w7) (hby8.block gp l7 hne8)]; exact v71
  have v82 : w8.frozen? ⟨gp, 2, none⟩ = false := by rw [World.frozen?_of_block (w := w7) (hby8.block gp l7 hne8)]; exact v72
  have l8 := Nat.lt_of_lt_of_le l7 hby8.size
  have HM8 : Hid (Moves w w8 kp kq) := moves_b HM7.out hby8
  clear hw8 hby8 hval8
  have HW : Hid (Walking w0 w8 ka kp kb kq va vb A B P1 Q1) := by
    show Walking _ _ _ _ _ _ _ _ _ _ _ _
    have h := H8.out
    skip
    skip
    exact h
  have g0 := HW.out.ca
  have g1 := HW.out.cp
  have g2' := HW.out.cb
  have g3 := HW.out.cq
  have m0 := HW.out.la
  have m1 := HW.out.lp
  have m2 := HW.out.lb
  have m3 := HW.out.lq
  have r3 := R3.out
  have r4 := R4.out
  have hi1 := HI1.out
  have hi2 := HI2.out
  obtain ⟨o0, o1, o2⟩ : w8.cell? ⟨gp, 0, none⟩ = some (.int .i64 yk) ∧ w8.cell? ⟨gp, 1, none⟩ = some (.int .i64 yn) ∧ w8.cell? ⟨gp, 2, none⟩ = some (.string yt) := ⟨y80, y81, y82⟩
  obtain ⟨j0, j1, j2⟩ : w8.frozen? ⟨gp, 0, none⟩ = false ∧ w8.frozen? ⟨gp, 1, none⟩ = false ∧ w8.frozen? ⟨gp, 2, none⟩ = false := ⟨v80, v81, v82⟩
  have lz := l8
  have HMV := HM8
  have N8 := Lib.hid n8
  clear q0 q1 q2 q3 q4 q5 l0' l1' l2' l3' s0 s1 s2 z0 z1 z2 l4 hp64 hq64 y50 y51 y52 v50 v51 v52 l5 y60 y61 y62 v60 v61 v62 l6 y70 y71 y72 v70 v71 v72 l7 y80 y81 y82 v80 v81 v82 l8 x0 x1 x2 hgs n6 n61 n62 i1 u0 u1 u2 hgs2 n16 n161 n162 i2
  refine still_tail_drew 9 mx (by kernel_rfl) ?_
  simp only [List.take_succ_cons, List.take_zero, List.drop_succ_cons, List.drop_zero]
  repeat still_step
  still_call (hi1 _)
  repeat still_step
  still_call (hi2 _)
  repeat still_step
  refine wpStill_nil ?_
  go_wp2_with fail
  have hput := put3 w8 gp yk yn yt lz j0 j1 j2 o0 o1 o2
  obtain ⟨wf, hwf⟩ : ∃ u, u = ((w8.setCell ⟨gp, 0, none⟩ (.int .i64 yk)).setCell ⟨gp, 1, none⟩ (.int .i64 yn)).setCell ⟨gp, 2, none⟩ (.string yt) := ⟨_, rfl⟩
  rw [← hwf] at hput ⊢
  obtain ⟨hbyf, e0, e1, e2, -, -, -, -⟩ := hput
  have HF := Lib.hid ((HW.out.kept hbyf (fun k hk => by cases hk; exact ⟨HZ0.out, fun e => N8.out e.symm, fun e => n7 e.symm, fun e => n9 e.symm, fun e => n10 e.symm⟩)).kept (by_drew' wf none) (fun k hk => by cases hk))
  have HMF := Lib.hid (moves_drew (moves_put HMV.out hbyf HGP.out))
  rw [← HP1.out, ← HQ1.out]
  exact bodyPost_ret (v := .tuple #[V.val ⟨yk, yn, yt⟩, .bool (oddB P1), .bool (oddB Q1), .bool true]) (by simp [results, Try.results79, go_sem, V.val, e0, e1, e2]; try rfl) rfl ⟨rfl, HF.out, HMF.out⟩
end Go.Proofs.Ytmjokpakekfkfaa
