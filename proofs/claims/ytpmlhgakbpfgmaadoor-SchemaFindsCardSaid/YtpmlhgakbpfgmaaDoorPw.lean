/- The columns of a predicate; the contract of predicate.appendColumns. -/
import Derived.Test.YtpmlhgakbpfgmaaDoorPb
import Derived.Test.YtpmlhgakbpfgmaaDoorPl
import Derived.Test.YtpmlhgakbpfgmaaDoorKa
import Derived.Deep.AppendLies
set_option linter.unusedSimpArgs false
set_option linter.unusedVariables false
namespace Go.Proofs.YtpmlhgakbpfgmaaDoor
open Go.RowKit

/-- The columns of an operand. -/
def opdCols (o : Od) : List Int := if o.k = 1 ∧ 0 ≤ o.i then [o.i] else []
mutual
/-- The columns of a predicate as they come. -/
def colsP : Pr → List Int
  | .mk op _ l r args => (if op = 3 then opdCols l ++ opdCols r else []) ++ colsL args
def colsL : List Pr → List Int
  | [] => []
  | p :: ps => colsP p ++ colsL ps
end
theorem colsP_eq (op cmp : Int) (l r : Od) (args : List Pr) : colsP (.mk op cmp l r args) = (if op = 3 then opdCols l ++ opdCols r else []) ++ colsL args := by rw [colsP]
theorem colsL_append : ∀ (a b : List Pr), colsL (a ++ b) = colsL a ++ colsL b
  | [], b => by rw [colsL]; rfl
  | p :: a, b => by rw [List.cons_append, colsL, colsL, colsL_append a b, List.append_assoc]
theorem colsL_take {ps : List Pr} {j : Nat} (h : j < ps.length) : colsL (ps.take (j + 1)) = colsL (ps.take j) ++ colsP ps[j] := by
  rw [List.take_succ_eq_append_getElem h, colsL_append, colsL, colsL, List.append_nil]
theorem colsL_le : ∀ (ps : List Pr) (j : Nat), (colsL (ps.take j)).length ≤ (colsL ps).length
  | [], j => by rw [List.take_nil]; exact Nat.le_refl _
  | p :: ps, 0 => by rw [List.take_zero, colsL]; simp
  | p :: ps, j + 1 => by
    have h := colsL_le ps j
    rw [List.take_succ_cons, colsL, colsL, List.length_append, List.length_append]; omega
def ints (l : List Int) : List Value := l.map (Value.int .i64)
theorem ints_length (l : List Int) : (ints l).length = l.length := by unfold ints; simp
theorem ints_append (a b : List Int) : ints (a ++ b) = ints a ++ ints b := by unfold ints; simp
theorem ints_one (l : List Int) : ∀ u ∈ ints l, u.oneCell' = true := by
  intro u hu
  obtain ⟨n, _, rfl⟩ := List.mem_map.1 hu
  rfl
/-- A list of numbers that lies in memory of the call's own. -/
def OwnN (w : World) (base : Nat) (v : Value) (l : List Int) : Prop := w.ownsRow base 3 1 v l.length (ints l)
theorem OwnN.ints {S : Nat → Prop} {w : World} {base : Nat} {v : Value} {l : List Int} (h : OwnN w base v l) (hl : l.length ≤ 4398046511104) (hS : ∀ b, base ≤ b → S b) : IntsAt S w v l := by
  obtain ⟨hx, hv | ⟨g, cap, cur, rfl, hg, hh, hcap, hm, hs, ht⟩⟩ := h
  · obtain ⟨rfl, hn⟩ := hv
    obtain rfl : l = [] := List.length_eq_zero_iff.1 hn
    exact IntsAt.nil none 0
  · have h' : w.ownsRow base 3 1 (.slice (some ⟨g, 0, none⟩) l.length cap) l.length (Go.Proofs.YtpmlhgakbpfgmaaDoor.ints l) := ⟨hx, .inr ⟨g, cap, cur, rfl, hg, hh, hcap, hm, hs, ht⟩⟩
    refine ⟨_, cap, rfl, by omega, .inr ⟨g, 0, rfl, (Array.getElem?_eq_some_iff.1 hh).1, hS g hg, fun i hi => ?_⟩⟩
    have hc := h'.cellAt i (by omega)
    rw [Nat.zero_add, hc]
    unfold Go.Proofs.YtpmlhgakbpfgmaaDoor.ints
    simp [hi]
theorem own_slice {w : World} {base : Nat} {e : TypeId} {size : Nat} {v : Value} {n : Nat} {xs : List Value} (h : w.ownsRow base e size v n xs) : ∃ a cap, v = .slice a n cap := by
  obtain ⟨hx, hv | ⟨g, cap, cur, hv, hg, hh, hcap, hm, hs, ht⟩⟩ := h
  · obtain ⟨rfl, hn⟩ := hv; exact ⟨none, 0, by rw [hn]⟩
  · exact ⟨_, _, hv⟩
/-- How the list's block has moved: it is the old one, or younger than the world w. -/
def Moved (w : World) (v v' : Value) : Prop := v'.ownBlock = v.ownBlock ∨ ∀ g, v'.ownBlock = some g → w.heap.size ≤ g
theorem Moved.refl (w : World) (v : Value) : Moved w v v := .inl rfl
theorem grown_step {w0 w1 w2 : World} {v v' : Value} (h1 : w0.grownBy w1 v.ownBlock) (hr : Moved w0 v v') (h2 : w1.grownBy w2 v'.ownBlock) : w0.grownBy w2 v.ownBlock :=
  ⟨h2.os.trans h1.os, h2.tape.trans h1.tape, h2.output.trans h1.output, Nat.le_trans h1.size h2.size, fun k hk hn => (h2.block k (Nat.lt_of_lt_of_le hk h1.size) (fun e => hr.elim (fun h => hn (e.trans h)) (fun h => by have := h k e.symm; omega))).trans (h1.block k hk hn)⟩
theorem moved_step {w0 w1 : World} {v v' v'' : Value} (h : w0.heap.size ≤ w1.heap.size) (hr : Moved w0 v v') (h2 : Moved w1 v' v'') : Moved w0 v v'' := by
  rcases h2 with h2 | h2
  · rcases hr with hr | hr
    · exact .inl (h2.trans hr)
    · exact .inr fun g hg => hr g (h2.symm.trans hg)
  · exact .inr fun g hg => Nat.le_trans h (h2 g hg)
theorem grown_alloc {w0 w1 : World} {r : Option Nat} (h : w0.grownBy w1 r) (o : Obj) : w0.grownBy (w1.alloc o) r := by_trans h (World.grownBy_alloc _ o r)
theorem below_grown {w0 w1 : World} {v : Value} {base : Nat} (h : w0.grownBy w1 v.ownBlock) (hb : ∀ g, v.ownBlock = some g → base ≤ g) : Kept (fun g => g < base) w0 w1 :=
  kept_by h fun g hg hlt => by have := hb g hg; omega
theorem grown_w {w W wr : World} {v : Value} (h : w.grownBy W none) (h2 : W.grownBy wr v.ownBlock) : w.grownBy wr v.ownBlock := by_trans (by_some h _) h2
theorem moved_w {w W : World} {v v' : Value} (h : w.heap.size ≤ W.heap.size) (hm : Moved W v v') : Moved w v v' := hm.imp id fun h2 g hg => Nat.le_trans h (h2 g hg)
/-- What appendColumns answers. -/
def AppOut (base : Nat) (L : List Int) (v : Value) (w : World) (e : Ending) (w' : World) : Prop := ∃ v', e = .returned v' ∧ OwnN w' base v' L ∧ w.grownBy w' v.ownBlock ∧ Moved w v v'
theorem infoI : (Tryd.prog.info? 3).map (fun i => (i.zero, i.size, i.bytes)) = some (some (.int .i64 0), 1, 8) := by kernel_rfl
theorem PBox.by {w w' : World} {g : Nat} {p : Pr} {s : Value} {r : Option Nat} (h : PBox w g p s) (hw : w.grownBy w' r) (hr : r ≠ some g) : PBox w' g p s :=
  have hc : ∀ o, w'.cell? ⟨g, o, none⟩ = w.cell? ⟨g, o, none⟩ := fun o => World.cell?_of_block (hw.block g h.l (fun e => hr e.symm))
  ⟨Nat.lt_of_lt_of_le h.l hw.size, (hc _).trans h.c0, (hc _).trans h.c1, (hc _).trans h.c2, (hc _).trans h.c3, (hc _).trans h.c4, (hc _).trans h.c5, (hc _).trans h.c6, (hc _).trans h.c7, (hc _).trans h.c8, (hc _).trans h.c9, (hc _).trans h.c10, (hc _).trans h.c11, (hc _).trans h.c12⟩
/-- The columns of the first operands. -/
def opsCols (l r : Od) : Nat → List Int
  | 0 => []
  | 1 => opdCols l
  | _ + 2 => opdCols l ++ opdCols r
theorem cell_one_new' (w : World) (x : Value) (t : TypeId) : ∀ j u, [x][j]? = some u → (w.alloc (.cells #[x] t)).cell? ((⟨w.heap.size, 0, none⟩ : Addr).add j) = some u := by
  intro j u hj
  rcases j with _ | j
  · simp at hj; subst hj; show (w.alloc _).cell? ⟨w.heap.size, 0 + 0, none⟩ = _; go_simp
  · simp at hj
end Go.Proofs.YtpmlhgakbpfgmaaDoor
