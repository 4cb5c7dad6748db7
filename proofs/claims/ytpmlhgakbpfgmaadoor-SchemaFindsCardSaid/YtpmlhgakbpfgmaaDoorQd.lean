/- Lists of predicates that a call has made itself; boxes of predicates. -/
import Derived.Test.YtpmlhgakbpfgmaaDoorQc
import Derived.Test.YtpmlhgakbpfgmaaDoorKx
import Derived.Test.YtpmlhgakbpfgmaaDoorPa
import Derived.Deep.AppendLies
import Derived.Laws.OwnMore
set_option linter.unusedSimpArgs false
set_option linter.unusedVariables false
namespace Go.Proofs.YtpmlhgakbpfgmaaDoor
open Go.RowKit

def cellsO (p : Pr) (s : Value) : List Value := [.int .i64 p.op, .int .i64 p.cmp, .int .i64 p.l.k, .int .i64 p.l.i, .int .i64 p.l.v.k, .int .i64 p.l.v.n, .string p.l.v.t, .int .i64 p.r.k, .int .i64 p.r.i, .int .i64 p.r.v.k, .int .i64 p.r.v.n, .string p.r.v.t, s]
def cellsR : List (Pr × Value) → List Value
  | [] => []
  | q :: l => cellsO q.1 q.2 ++ cellsR l
theorem cellsR_length : ∀ l : List (Pr × Value), (cellsR l).length = l.length * 13
  | [] => rfl
  | q :: l => by simp only [cellsR, cellsO, List.length_append, List.length_cons, List.length_nil, cellsR_length l]; omega
theorem cellsR_snoc : ∀ (l : List (Pr × Value)) (p : Pr) (s : Value), cellsR (l ++ [(p, s)]) = cellsR l ++ cellsO p s
  | [], p, s => by simp [cellsR]
  | q :: l, p, s => by simp only [List.cons_append, cellsR, cellsR_snoc l p s, List.append_assoc]
theorem cellsR_at : ∀ (l : List (Pr × Value)) (i j : Nat) (h : i < l.length) (hj : j < 13), (cellsR l)[i * 13 + j]? = (cellsO l[i].1 l[i].2)[j]?
  | q :: l, 0, j, h, hj => by
    rw [cellsR, List.getElem?_append_left (by simp only [cellsO, List.length_cons, List.length_nil]; omega)]; simp
  | q :: l, i + 1, j, h, hj => by
    have := cellsR_at l i j (by simpa using h) hj
    rw [cellsR, List.getElem?_append_right (by simp only [cellsO, List.length_cons, List.length_nil]; omega)]
    rw [show (i + 1) * 13 + j - (cellsO q.1 q.2).length = i * 13 + j from by simp only [cellsO, List.length_cons, List.length_nil]; omega]
    simpa using this
theorem infoR : (Tryd.prog.info? 60).map (fun i => (i.zero, i.size, i.bytes)) = some (some (.agg #[.int .i64 0, .int .i64 0, .int .i64 0, .int .i64 0, .int .i64 0, .int .i64 0, .string ⟨#[]⟩, .int .i64 0, .int .i64 0, .int .i64 0, .int .i64 0, .string ⟨#[]⟩, .slice none 0 0]), 13, 136) := by kernel_rfl
/-- Predicates that a call owns, their arguments in other blocks of its own. -/
structure OwnR (base k : Nat) (w : World) (v : Value) (qs : List (Pr × Value)) : Prop where
  own : w.ownsRow base 60 13 v qs.length (cellsR qs)
  rest : ∀ q ∈ qs, PrIn (fun g => base ≤ g ∧ v.ownBlock ≠ some g) w k q.2 q.1.args
theorem OwnR.nil (base k : Nat) (w : World) : OwnR base k w (.slice none 0 0) [] := ⟨World.ownsRow_nil _ _ _ _, by simp⟩
theorem OwnR.far {base k b : Nat} {w w' : World} {v : Value} {qs : List (Pr × Value)} (h : OwnR base k w v qs) (hg : w.grownBy w' (some b)) (hb : b < base) : OwnR base k w' v qs :=
  ⟨h.own.kept hg (own_far h.own hb), fun q hq => (h.rest q hq).kept (kept_by hg fun g e hS => by cases e; have := hS.1; omega)⟩
theorem OwnR.snoc {base k b H : Nat} {wo w7 w9 : World} {v v' : Value} {qs : List (Pr × Value)} {p : Pr} {s : Value} {o : Obj} (h : OwnR base k wo v qs) (hb : b < base) (hbase : base ≤ wo.heap.size)
    (h7 : wo.grownBy w7 (some b)) (hps : PrIn (fun g => wo.heap.size ≤ g) w7 k s p.args) (h9 : (w7.alloc o).grownBy w9 v.ownBlock)
    (hown : w9.ownsRow base 60 13 v' (qs.length + 1) (cellsR qs ++ cellsO p s)) (hl : v'.ownBlock = v.ownBlock ∨ ∃ g, v'.ownBlock = some g ∧ w7.heap.size < g) :
    OwnR base k w9 v' (qs ++ [(p, s)]) := by
  have hal : Below w7.heap.size w7 (w7.alloc o) := (Below.refl _ _).alloc (Nat.le_refl _) _
  have s7 := h7.size
  have hs8 : (w7.alloc o).heap.size = w7.heap.size + 1 := by simp
  have hk : Kept (fun g => base ≤ g ∧ v.ownBlock ≠ some g ∧ v'.ownBlock ≠ some g) (w7.alloc o) w9 := kept_by h9 fun g e hS => hS.2.1 e
  have hv' : ∀ g, g < w7.heap.size + 1 → v.ownBlock ≠ some g → v'.ownBlock ≠ some g := fun g hg hv e => by
    rcases hl with hl | ⟨g', hl, hl'⟩
    · exact hv (hl.symm.trans e)
    · rw [hl] at e; cases e; omega
  refine ⟨by rw [cellsR_snoc, List.length_append]; exact hown, fun q hq => ?_⟩
  rcases List.mem_append.1 hq with hq | hq
  · have h1 := ((h.rest q hq).kept (kept_by h7 fun g e hS => by cases e; have := hS.1; omega)).later hal
    exact (PrIn.kept hk (h1.mono fun g hg hS => ⟨hS.1, hS.2, hv' g (by omega) hS.2⟩)).mono fun g _ hS => ⟨hS.1, hS.2.2⟩
  · obtain rfl : q = (p, s) := by simpa using hq
    have h1 := hps.later hal
    refine (PrIn.kept hk (h1.mono fun g hg hS => ?_)).mono fun g _ hS => ⟨hS.1, hS.2.2⟩
    have hne : v.ownBlock ≠ some g := fun e => by
      have := (h.own.lt g e).2
      omega
    exact ⟨by omega, hne, hv' g (by omega) hne⟩
theorem own_cap {w : World} {base : Nat} {e : TypeId} {size n cap : Nat} {a : Option Addr} {xs : List Value} (h : w.ownsRow base e size (.slice a n cap) n xs) : n ≤ cap := by
  rcases h.2 with ⟨_, h0⟩ | ⟨g, c, cur, hv, hb, hg, hnc, _⟩
  · omega
  · simp only [Value.slice.injEq] at hv; omega
theorem OwnR.at_ {base k : Nat} {w : World} {v : Value} {qs : List (Pr × Value)} (h : OwnR base k w v qs) (hl : qs.length ≤ 4398046511104) : PrIn (fun g => base ≤ g) w (k + 1) v (qs.map (·.1)) := by
  obtain ⟨a, cap, rfl⟩ := own_slice h.own
  refine ⟨a, cap, by rw [List.length_map], by rw [List.length_map]; exact ⟨hl, own_cap h.own⟩, ?_⟩
  by_cases h0 : qs = []
  · left; rw [h0]; rfl
  · right
    obtain ⟨g, cg, hv, hb, hg⟩ := World.ownsRow.form h.own (by cases qs with | nil => exact absurd rfl h0 | cons => simp)
    simp only [Value.slice.injEq, true_and] at hv
    obtain ⟨rfl, rfl⟩ := hv
    refine ⟨g, 0, rfl, hg, hb, fun i hi => ?_⟩
    have hi' : i < qs.length := by simpa using hi
    have hm := List.getElem_mem hi'
    have e : (qs.map (·.1))[i] = qs[i].1 := by simp
    rw [e]
    have hc : ∀ j (hj : j < 13), w.cell? ⟨g, 0 + i * 13 + j, none⟩ = (cellsO qs[i].1 qs[i].2)[j]? := fun j hj => by
      rw [Nat.zero_add]
      exact (h.own.cellAt _ (by omega)).trans (cellsR_at qs i j hi' hj)
    refine ⟨qs[i].2, ⟨(hc 0 (by omega)), (hc 1 (by omega)), (hc 2 (by omega)), (hc 3 (by omega)), (hc 4 (by omega)), (hc 5 (by omega)), (hc 6 (by omega)), (hc 7 (by omega)), (hc 8 (by omega)), (hc 9 (by omega)), (hc 10 (by omega)), (hc 11 (by omega)), (hc 12 (by omega))⟩, (h.rest _ hm).mono fun b _ hb => hb.1⟩
theorem ownR_slice {base k : Nat} {w : World} {v : Value} {qs : List (Pr × Value)} (h : OwnR base k w v qs) : ∃ a cap, v = .slice a qs.length cap := own_slice h.own
theorem thirteen_new (w : World) (y0 y1 y2 y3 y4 y5 y6 y7 y8 y9 y10 y11 y12 : Value) (t : TypeId) (n : Nat) (hn : n = w.heap.size) : ∀ j u, [y0, y1, y2, y3, y4, y5, y6, y7, y8, y9, y10, y11, y12][j]? = some u → (w.alloc (.cells #[y0, y1, y2, y3, y4, y5, y6, y7, y8, y9, y10, y11, y12] t)).cell? ((⟨n, 0, none⟩ : Addr).add j) = some u := by
  subst hn
  intro j u hj
  rcases j with _ | _ | _ | _ | _ | _ | _ | _ | _ | _ | _ | _ | _ | j
  · simp at hj; subst hj; show (w.alloc _).cell? ⟨w.heap.size, 0 + 0, none⟩ = _; go_simp
  · simp at hj; subst hj; show (w.alloc _).cell? ⟨w.heap.size, 0 + 1, none⟩ = _; go_simp
  · simp at hj; subst hj; show (w.alloc _).cell? ⟨w.heap.size, 0 + 2, none⟩ = _; go_simp
  · simp at hj; subst hj; show (w.alloc _).cell? ⟨w.heap.size, 0 + 3, none⟩ = _; go_simp
  · simp at hj; subst hj; show (w.alloc _).cell? ⟨w.heap.size, 0 + 4, none⟩ = _; go_simp
  · simp at hj; subst hj; show (w.alloc _).cell? ⟨w.heap.size, 0 + 5, none⟩ = _; go_simp
  · simp at hj; subst hj; show (w.alloc _).cell? ⟨w.heap.size, 0 + 6, none⟩ = _; go_simp
  · simp at hj; subst hj; show (w.alloc _).cell? ⟨w.heap.size, 0 + 7, none⟩ = _; go_simp
  · simp at hj; subst hj; show (w.alloc _).cell? ⟨w.heap.size, 0 + 8, none⟩ = _; go_simp
  · simp at hj; subst hj; show (w.alloc _).cell? ⟨w.heap.size, 0 + 9, none⟩ = _; go_simp
  · simp at hj; subst hj; show (w.alloc _).cell? ⟨w.heap.size, 0 + 10, none⟩ = _; go_simp
  · simp at hj; subst hj; show (w.alloc _).cell? ⟨w.heap.size, 0 + 11, none⟩ = _; go_simp
  · simp at hj; subst hj; show (w.alloc _).cell? ⟨w.heap.size, 0 + 12, none⟩ = _; go_simp
  · simp at hj
/-- A predicate's box that may be stored into. -/
structure PBx (w : World) (g : Nat) (p : Pr) (s : Value) : Prop where
  b : PBox w g p s
  f : ∀ o, w.frozen? ⟨g, o, none⟩ = false
theorem PBx.new (w : World) (p : Pr) (s : Value) (T : TypeId) : PBx (w.alloc (pBlock p s T)) w.heap.size p s := ⟨PBox.new w p s T, fun o => by go_simp⟩
theorem PBx.by_ {w w' : World} {g : Nat} {p : Pr} {s : Value} {r : Option Nat} (h : PBx w g p s) (hw : w.grownBy w' r) (hr : r ≠ some g) : PBx w' g p s :=
  have hb : w'.heap[g]? = w.heap[g]? := hw.block g h.b.l (fun e => hr e.symm)
  have hc : ∀ o, w'.cell? ⟨g, o, none⟩ = w.cell? ⟨g, o, none⟩ := fun o => World.cell?_of_block hb
  have hf : ∀ o, w'.frozen? ⟨g, o, none⟩ = w.frozen? ⟨g, o, none⟩ := fun o => World.frozen?_of_block hb
  let q := h.b
  ⟨⟨Nat.lt_of_lt_of_le q.l hw.size, (hc _).trans q.c0, (hc _).trans q.c1, (hc _).trans q.c2, (hc _).trans q.c3, (hc _).trans q.c4, (hc _).trans q.c5, (hc _).trans q.c6, (hc _).trans q.c7, (hc _).trans q.c8, (hc _).trans q.c9, (hc _).trans q.c10, (hc _).trans q.c11, (hc _).trans q.c12⟩, fun o => (hf o).trans (h.f o)⟩
theorem chain_by (wf : World) (H : Nat) (x0 x1 x2 x3 x4 x5 x6 x7 x8 x9 x10 x11 x12 : Value) : wf.grownBy ((((((((((((((((((((((((((wf).setCell ⟨H, 0, none⟩ x0)).setCell ⟨H, 1, none⟩ x1)).setCell ⟨H, 2, none⟩ x2)).setCell ⟨H, 3, none⟩ x3)).setCell ⟨H, 4, none⟩ x4)).setCell ⟨H, 5, none⟩ x5)).setCell ⟨H, 6, none⟩ x6)).setCell ⟨H, 7, none⟩ x7)).setCell ⟨H, 8, none⟩ x8)).setCell ⟨H, 9, none⟩ x9)).setCell ⟨H, 10, none⟩ x10)).setCell ⟨H, 11, none⟩ x11)).setCell ⟨H, 12, none⟩ x12) (some H) :=
  by_trans (by_trans (by_trans (by_trans (by_trans (by_trans (by_trans (by_trans (by_trans (by_trans (by_trans (by_trans (by_store) by_store) by_store) by_store) by_store) by_store) by_store) by_store) by_store) by_store) by_store) by_store) by_store
theorem fin_tree {w wf : World} {b H n : Nat} {c : CaseId} {s : Value} {ps : List Pr} (h0 : CaseAt w b c) (hH : w.heap.size ≤ H) (hc : CaseAt wf b c) (hg : w.grownBy wf (some b)) (hp : PrIn (fun g => H < g) wf n s ps) (x0 x1 x2 x3 x4 x5 x6 x7 x8 x9 x10 x11 x12 : Value) :
    PrIn (fun g => w.heap.size ≤ g) ((((((((((((((((((((((((((wf).setCell ⟨H, 0, none⟩ x0)).setCell ⟨H, 1, none⟩ x1)).setCell ⟨H, 2, none⟩ x2)).setCell ⟨H, 3, none⟩ x3)).setCell ⟨H, 4, none⟩ x4)).setCell ⟨H, 5, none⟩ x5)).setCell ⟨H, 6, none⟩ x6)).setCell ⟨H, 7, none⟩ x7)).setCell ⟨H, 8, none⟩ x8)).setCell ⟨H, 9, none⟩ x9)).setCell ⟨H, 10, none⟩ x10)).setCell ⟨H, 11, none⟩ x11)).setCell ⟨H, 12, none⟩ x12) n s ps ∧ CaseAt ((((((((((((((((((((((((((wf).setCell ⟨H, 0, none⟩ x0)).setCell ⟨H, 1, none⟩ x1)).setCell ⟨H, 2, none⟩ x2)).setCell ⟨H, 3, none⟩ x3)).setCell ⟨H, 4, none⟩ x4)).setCell ⟨H, 5, none⟩ x5)).setCell ⟨H, 6, none⟩ x6)).setCell ⟨H, 7, none⟩ x7)).setCell ⟨H, 8, none⟩ x8)).setCell ⟨H, 9, none⟩ x9)).setCell ⟨H, 10, none⟩ x10)).setCell ⟨H, 11, none⟩ x11)).setCell ⟨H, 12, none⟩ x12) b c ∧ w.grownBy ((((((((((((((((((((((((((wf).setCell ⟨H, 0, none⟩ x0)).setCell ⟨H, 1, none⟩ x1)).setCell ⟨H, 2, none⟩ x2)).setCell ⟨H, 3, none⟩ x3)).setCell ⟨H, 4, none⟩ x4)).setCell ⟨H, 5, none⟩ x5)).setCell ⟨H, 6, none⟩ x6)).setCell ⟨H, 7, none⟩ x7)).setCell ⟨H, 8, none⟩ x8)).setCell ⟨H, 9, none⟩ x9)).setCell ⟨H, 10, none⟩ x10)).setCell ⟨H, 11, none⟩ x11)).setCell ⟨H, 12, none⟩ x12) (some b) :=
  ⟨(hp.kept (kept_by (chain_by wf H x0 x1 x2 x3 x4 x5 x6 x7 x8 x9 x10 x11 x12) fun g e hS => by cases e; omega)).mono fun g _ hS => by omega, h0.stored (h0.stored (h0.stored (h0.stored (h0.stored (h0.stored (h0.stored (h0.stored (h0.stored (h0.stored (h0.stored (h0.stored (h0.stored (hc) hH _) hH _) hH _) hH _) hH _) hH _) hH _) hH _) hH _) hH _) hH _) hH _) hH _, by_store_new (by_store_new (by_store_new (by_store_new (by_store_new (by_store_new (by_store_new (by_store_new (by_store_new (by_store_new (by_store_new (by_store_new (by_store_new (hg) hH _) hH _) hH _) hH _) hH _) hH _) hH _) hH _) hH _) hH _) hH _) hH _) hH _⟩
/-! ### what a tree's nodes must keep -/
def cntMax : Nat → Nat
  | 0 => 1
  | n + 1 => 1 + 3 * cntMax n
theorem cntMax_pos : ∀ n, 1 ≤ cntMax n
  | 0 => Nat.le_refl _
  | n + 1 => by rw [cntMax]; omega
theorem cntMax_up (n : Nat) : cntMax n ≤ cntMax (n + 1) := by rw [cntMax]; omega
/-- A tree that is valid, and not too large. -/
structure TreeOk (cols par : List Int) (n : Nat) (p : Pr) : Prop where
  v : validR cols par p = true
  d : depthP p ≤ n + 1
  c : countP p ≤ cntMax n
theorem TreeOk.plain {cols par : List Int} {op : Int} (h : op = 1 ∨ op = 2) (n : Nat) : TreeOk cols par n (.mk op 0 zeroO zeroO []) := by
  refine ⟨?_, ?_, ?_⟩
  · rw [validR, rbadL]; unfold rnodeB plainB
    rw [if_pos h]; simp [zeroO]
  · rw [depthP, depthL]; omega
  · rw [countP, countL]; have := cntMax_pos n; omega
theorem TreeOk.leaf {cols par : List Int} {cmp k : Int} {l r : Od} (h1 : 1 ≤ cmp) (h2 : cmp ≤ 6) (hl : kindO cols par l = k) (hr : kindO cols par r = k) (hk : 3 ≤ k) (n : Nat) : TreeOk cols par n (.mk 3 cmp l r []) := by
  refine ⟨?_, ?_, ?_⟩
  · rw [validR, rbadL]; unfold rnodeB comparesB
    rw [if_neg (by omega), if_pos rfl, hl, hr, decide_eq_true h1, decide_eq_true h2, decide_eq_false (show ¬ k = 0 by omega)]; simp
  · rw [depthP, depthL]; omega
  · rw [countP, countL]; have := cntMax_pos n; omega
theorem depthL_le {d : Nat} : ∀ {ps : List Pr}, (∀ p ∈ ps, depthP p ≤ d) → depthL ps ≤ d
  | [], _ => by rw [depthL]; omega
  | p :: ps, h => by
    rw [depthL]
    have h1 := h p (by simp)
    have h2 := depthL_le (ps := ps) fun q hq => h q (by simp [hq])
    omega
theorem countL_le {m : Nat} : ∀ {ps : List Pr}, (∀ p ∈ ps, countP p ≤ m) → countL ps ≤ ps.length * m
  | [], _ => by rw [countL]; omega
  | p :: ps, h => by
    rw [countL, List.length_cons, Nat.succ_mul]
    have h1 := h p (by simp)
    have h2 := countL_le (ps := ps) fun q hq => h q (by simp [hq])
    omega
theorem rbadL_false {cols par : List Int} {ps : List Pr} (h : ∀ p ∈ ps, validR cols par p = true) : rbadL cols par ps = false := by
  rw [rbadL_any, List.any_eq_false]
  intro p hp
  rw [h p hp]; simp
theorem TreeOk.node {cols par : List Int} {n : Nat} {op : Int} {ps : List Pr} (h : ∀ p ∈ ps, TreeOk cols par n p) (hop : (op = 6 ∧ ps.length = 1) ∨ op = 4 ∨ op = 5) (hl : ps.length ≤ 3) : TreeOk cols par (n + 1) (.mk op 0 zeroO zeroO ps) := by
  have hd := depthL_le (d := n + 1) fun p hp => (h p hp).d
  have hc := countL_le (m := cntMax n) fun p hp => (h p hp).c
  have hpl : plainB 0 zeroO zeroO = true := by unfold plainB; simp [zeroO]
  refine ⟨?_, ?_, ?_⟩
  · rw [validR, rbadL_false fun p hp => (h p hp).v]
    unfold rnodeB
    rw [hpl]
    rcases hop with ⟨rfl, h1⟩ | rfl | rfl
    · simp [h1]
    · simp
    · simp
  · rw [depthP]; omega
  · rw [countP, cntMax]
    have : ps.length * cntMax n ≤ 3 * cntMax n := Nat.mul_le_mul_right _ hl
    omega
/-- What the case's tree answers. -/
def GotTree (b : Nat) (c : CaseId) (cols par : List Int) (n : Nat) (w : World) (e : Ending) (w' : World) : Prop :=
  ∃ (p : Pr) (s : Value), e = .returned (p.val s) ∧ PrIn (fun g => w.heap.size ≤ g) w' n s p.args ∧ TreeOk cols par n p ∧ CaseAt w' b c ∧ w.grownBy w' (some b)
end Go.Proofs.YtpmlhgakbpfgmaaDoor
