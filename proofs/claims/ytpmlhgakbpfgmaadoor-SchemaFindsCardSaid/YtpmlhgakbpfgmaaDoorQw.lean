/- The contract of the case's SpoilPredicate. -/
import Derived.Test.YtpmlhgakbpfgmaaDoorQr
import Derived.Test.YtpmlhgakbpfgmaaDoorQf
import Derived.Laws.AppendOwnNone
import Derived.ArgAppend
import Derived.Deep.CutBlock
import Derived.Deep.Slices
set_option linter.unusedSimpArgs false
set_option linter.unusedVariables false
namespace Go.Proofs.YtpmlhgakbpfgmaaDoor
open Go.RowKit Go.Deep

theorem run_append_nothing {w : World} (base : Nat) (t ty e : TypeId) (i : TypeInfo) (size : Nat) (c : Nat) (ht : Tryd.prog.underlying t = some (.slice e)) (hi : Tryd.prog.info? e = some i)
    (v : Value) (n : Nat) (xs : List Value) (hown : w.ownsRow base e size v n xs) :
    (Builtin.append_ #[t, t] ty #[v, .slice none 0 c]).run Tryd.prog w = .ok v w := by
  rcases hown.2 with ⟨rfl, rfl⟩ | ⟨g, cap, cur, rfl, _, _, hnc, _⟩
  · simp [Builtin.append_, run_underlying ht, sizeOf, typeInfo, hi, Builtin.lenOf, Builtin.firstCells]
  · simp [Builtin.append_, run_underlying ht, sizeOf, typeInfo, hi, Builtin.lenOf, Builtin.firstCells, hnc, storeCells]
theorem wpList_append_all {w : World} {ops : Array Oper} {rest : List Oper} {o : Oper} {a : Act} {Q : Exit → Act → World → Prop} (hgd : o.guard = none) (s x : Operand) (t : TypeId)
    (ho : o.op = .call { callee := .builtin .append, args := #[s, x], argTypes := #[t, t] })
    (base : Nat) (e : TypeId) (i : TypeInfo) (z : Value) (size bytes : Nat) (ht : Tryd.prog.underlying t = some (.slice e)) (hi : Tryd.prog.info? e = some i) (hz : i.zero = some z)
    (hsize : i.size = size) (hby : i.bytes = bytes) (hzs : z.cells.size = size) (hsz : 0 < size)
    (v : Value) (n : Nat) (xs : List Value) (hs : a.eval s = v) (hown : w.ownsRow base e size v n xs)
    (ad : Option Addr) (m c : Nat) (news : List Value) (hx : a.eval x = .slice ad m c) (hnone : ad = none → m = 0) (hl : news.length = m * size) (hnews : ∀ b, ad = some b → ∀ j u, news[j]? = some u → w.cell? (b.add j) = some u) (h1 : ∀ u ∈ news, u.oneCell' = true)
    (h63 : n + m ≤ maxLen) (hbytes : (n + m) * bytes ≤ 140737488355328) (hbase : base ≤ w.heap.size)
    (h : ∀ v' w', w'.ownsRow base e size v' (n + m) (xs ++ news) → w.grownBy w' v.ownBlock → wpList Tryd.prog ops Q rest (a.put o.dst v') w') : wpList Tryd.prog ops Q (o :: rest) a w := by
  cases ad with
  | none =>
    obtain rfl := hnone rfl
    obtain rfl : news = [] := List.eq_nil_of_length_eq_zero (by omega)
    refine wpList_plain hgd fun K hK => ?_
    have hrun := run_append_nothing (w := w) base t o.type e i size c ht hi v n xs hown
    unfold Oper.wp
    simp [execOp, ho, resolve, invoke, builtin, hs, hx, hrun, Result.andThen]
    exact hK _ _ (h v w (by simpa using hown) ⟨rfl, rfl, rfl, Nat.le_refl _, fun _ _ _ => rfl⟩)
  | some b => exact wpList_append_own _ hgd s x t ho base e i z size bytes ht hi hz hsize hby hzs hsz v n xs hs hown b m c news hx hl (hnews b rfl) h1 h63 hbytes hbase fun v' w' h2 h3 _ => h v' w' h2 h3

/-- The cells of a list of predicates, as appending asks for them. -/
theorem PrIn.parts {S : Nat → Prop} {w : World} {k : Nat} {a : Option Addr} {n cap : Nat} {ps : List Pr} (h : PrIn S w (k + 1) (.slice a n cap) ps) :
    ∃ qs : List (Pr × Value), qs.map (·.1) = ps ∧ n = ps.length ∧ (a = none → n = 0) ∧ (∀ q ∈ qs, PrIn S w k q.2 q.1.args) ∧ ∀ b, a = some b → ∀ j u, (cellsR qs)[j]? = some u → w.cell? (b.add j) = some u := by
  obtain ⟨a1, cap1, hv, -, h3⟩ := h
  simp only [Value.slice.injEq] at hv
  obtain ⟨rfl, rfl, rfl⟩ := hv
  by_cases h0 : ps = []
  · subst h0
    exact ⟨[], rfl, rfl, fun _ => rfl, by simp, fun b hb j u hj => by simp [cellsR] at hj⟩
  · obtain ⟨b, off, rfl, k2, k3, k4⟩ := h3.resolve_left h0
    have hin : Inhabited Value := ⟨.nilIface⟩
    have hex : ∀ i, i < ps.length → ∃ s : Value, ∀ h : i < ps.length, PrAt w b (off + i * 13) ps[i] s ∧ PrIn S w k s ps[i].args := fun i hi => by
      obtain ⟨s, h1, h2⟩ := k4 i hi
      exact ⟨s, fun _ => ⟨h1, h2⟩⟩
    obtain ⟨G, hG⟩ := choose_lt hex
    have hlen : (ps.zip ((List.range ps.length).map G)).length = ps.length := by simp
    have hat : ∀ i (h : i < (ps.zip ((List.range ps.length).map G)).length), (ps.zip ((List.range ps.length).map G))[i] = (ps[i]'(by omega), G i) := fun i h => by simp
    refine ⟨ps.zip ((List.range ps.length).map G), by rw [List.map_fst_zip]; simp, rfl, by simp, fun q hq => ?_, fun b' hb j u hj => ?_⟩
    · obtain ⟨i, hi, rfl⟩ := List.getElem_of_mem hq
      rw [hat i hi]
      exact (hG i (by omega) (by omega)).2
    · simp only [Option.some.injEq] at hb
      subst hb
      have hj1 : j < ps.length * 13 := by
        have := (List.getElem?_eq_some_iff.1 hj).1
        rw [cellsR_length, hlen] at this; exact this
      have hi : j / 13 < ps.length := by omega
      have hr : j % 13 < 13 := by omega
      have hjj : j / 13 * 13 + j % 13 = j := by omega
      rw [← hjj, cellsR_at _ (j / 13) (j % 13) (by rw [hlen]; exact hi) hr, hat] at hj
      obtain ⟨hp, -⟩ := hG (j / 13) hi hi
      rw [show (⟨b, off, none⟩ : Addr).add j = ⟨b, off + j / 13 * 13 + j % 13, none⟩ from by rw [Nat.add_assoc, hjj]; unfold Addr.add; split <;> simp_all]
      generalize j % 13 = r at hr hj
      simp only at hj
      rcases r with _ | _ | _ | _ | _ | _ | _ | _ | _ | _ | _ | _ | _ | r
      · simp [cellsO] at hj; subst hj; exact hp.c0
      · simp [cellsO] at hj; subst hj; exact hp.c1
      · simp [cellsO] at hj; subst hj; exact hp.c2
      · simp [cellsO] at hj; subst hj; exact hp.c3
      · simp [cellsO] at hj; subst hj; exact hp.c4
      · simp [cellsO] at hj; subst hj; exact hp.c5
      · simp [cellsO] at hj; subst hj; exact hp.c6
      · simp [cellsO] at hj; subst hj; exact hp.c7
      · simp [cellsO] at hj; subst hj; exact hp.c8
      · simp [cellsO] at hj; subst hj; exact hp.c9
      · simp [cellsO] at hj; subst hj; exact hp.c10
      · simp [cellsO] at hj; subst hj; exact hp.c11
      · simp [cellsO] at hj; subst hj; exact hp.c12
      · omega
theorem cellsR_one : ∀ (qs : List (Pr × Value)), ∀ u ∈ cellsR qs, (∀ q ∈ qs, q.2.oneCell' = true) → u.oneCell' = true
  | [], u, hu, _ => by simp [cellsR] at hu
  | q :: l, u, hu, h => by
    rw [cellsR, List.mem_append] at hu
    rcases hu with hu | hu
    · simp [cellsO] at hu
      rcases hu with rfl | rfl | rfl | rfl | rfl | rfl | rfl | rfl | rfl | rfl | rfl | rfl | rfl
      any_goals rfl
      exact h q (by simp)
    · exact cellsR_one l u hu fun x hx => h x (by simp [hx])
theorem PrIn.oneCell {S : Nat → Prop} {w : World} {k : Nat} {v : Value} {ps : List Pr} (h : PrIn S w k v ps) : v.oneCell' = true := by
  obtain ⟨a, cap, rfl, -⟩ := h.shape; rfl
/-- From a row that a call owns to a list of predicates. -/
theorem own_in {S : Nat → Prop} {base k : Nat} {w : World} {v : Value} {qs : List (Pr × Value)} (h : w.ownsRow base 60 13 v qs.length (cellsR qs)) (hr : ∀ q ∈ qs, PrIn S w k q.2 q.1.args) (hl : qs.length ≤ 4398046511104) (hS : ∀ g, base ≤ g → S g) :
    PrIn S w (k + 1) v (qs.map (·.1)) := by
  obtain ⟨a, cap, rfl⟩ := own_slice h
  refine ⟨a, cap, by rw [List.length_map], by rw [List.length_map]; exact ⟨hl, own_cap h⟩, ?_⟩
  by_cases h0 : qs = []
  · left; rw [h0]; rfl
  · right
    obtain ⟨g, cg, hv, hb, hg⟩ := World.ownsRow.form h (by cases qs with | nil => exact absurd rfl h0 | cons => simp)
    simp only [Value.slice.injEq, true_and] at hv
    obtain ⟨rfl, rfl⟩ := hv
    refine ⟨g, 0, rfl, hg, hS g hb, fun i hi => ?_⟩
    have hi' : i < qs.length := by simpa using hi
    have hm := List.getElem_mem hi'
    have e : (qs.map (·.1))[i] = qs[i].1 := by simp
    rw [e]
    have hc : ∀ j (hj : j < 13), w.cell? ⟨g, 0 + i * 13 + j, none⟩ = (cellsO qs[i].1 qs[i].2)[j]? := fun j hj => by
      rw [Nat.zero_add]
      exact (h.cellAt _ (by omega)).trans (cellsR_at qs i j hi' hj)
    exact ⟨qs[i].2, ⟨(hc 0 (by omega)), (hc 1 (by omega)), (hc 2 (by omega)), (hc 3 (by omega)), (hc 4 (by omega)), (hc 5 (by omega)), (hc 6 (by omega)), (hc 7 (by omega)), (hc 8 (by omega)), (hc 9 (by omega)), (hc 10 (by omega)), (hc 11 (by omega)), (hc 12 (by omega))⟩, hr _ hm⟩
theorem set_far (a : Pr) (s : Value) (X : List Value) (i r : Nat) (v : Value) : (cellsO a s ++ X).set ((i + 1) * 13 + r) v = cellsO a s ++ X.set (i * 13 + r) v := by
  rw [List.set_append_right _ _ (by simp only [cellsO, List.length_cons, List.length_nil]; omega)]
  congr 2
  simp only [cellsO, List.length_cons, List.length_nil]; omega
theorem set_far0 (a : Pr) (s : Value) (X : List Value) (i : Nat) (v : Value) : (cellsO a s ++ X).set ((i + 1) * 13) v = cellsO a s ++ X.set (i * 13) v := set_far a s X i 0 v
theorem cellsR_put (q : Pr) (t : Value) : ∀ (qs : List (Pr × Value)) (i : Nat), i < qs.length → ((((((((((((((cellsR qs).set (i * 13) (.int .i64 q.op)).set (i * 13 + 1) (.int .i64 q.cmp)).set (i * 13 + 2) (.int .i64 q.l.k)).set (i * 13 + 3) (.int .i64 q.l.i)).set (i * 13 + 4) (.int .i64 q.l.v.k)).set (i * 13 + 5) (.int .i64 q.l.v.n)).set (i * 13 + 6) (.string q.l.v.t)).set (i * 13 + 7) (.int .i64 q.r.k)).set (i * 13 + 8) (.int .i64 q.r.i)).set (i * 13 + 9) (.int .i64 q.r.v.k)).set (i * 13 + 10) (.int .i64 q.r.v.n)).set (i * 13 + 11) (.string q.r.v.t)).set (i * 13 + 12) t) = cellsR (qs.set i (q, t))
  | a :: l, 0, _ => by simp [cellsR, cellsO]
  | a :: l, i + 1, h => by
    simp only [cellsR, List.set_cons_succ, set_far, set_far0]
    rw [cellsR_put q t l i (by simpa using h)]
/-- An element of a list that a call owns is replaced. -/
theorem own_put {base n cap g : Nat} {w : World} {qs : List (Pr × Value)} (h : w.ownsRow base 60 13 (.slice (some ⟨g, 0, none⟩) n cap) n (cellsR qs)) (hn : n = qs.length) {i : Nat} (hi : i < qs.length) (q : Pr) (t : Value) :
    (((((((((((((w.setCell ⟨g, i * 13, none⟩ (.int .i64 q.op)).setCell ⟨g, i * 13 + 1, none⟩ (.int .i64 q.cmp)).setCell ⟨g, i * 13 + 2, none⟩ (.int .i64 q.l.k)).setCell ⟨g, i * 13 + 3, none⟩ (.int .i64 q.l.i)).setCell ⟨g, i * 13 + 4, none⟩ (.int .i64 q.l.v.k)).setCell ⟨g, i * 13 + 5, none⟩ (.int .i64 q.l.v.n)).setCell ⟨g, i * 13 + 6, none⟩ (.string q.l.v.t)).setCell ⟨g, i * 13 + 7, none⟩ (.int .i64 q.r.k)).setCell ⟨g, i * 13 + 8, none⟩ (.int .i64 q.r.i)).setCell ⟨g, i * 13 + 9, none⟩ (.int .i64 q.r.v.k)).setCell ⟨g, i * 13 + 10, none⟩ (.int .i64 q.r.v.n)).setCell ⟨g, i * 13 + 11, none⟩ (.string q.r.v.t)).setCell ⟨g, i * 13 + 12, none⟩ t).ownsRow base 60 13 (.slice (some ⟨g, 0, none⟩) n cap) n (cellsR (qs.set i (q, t))) ∧ w.grownBy (((((((((((((w.setCell ⟨g, i * 13, none⟩ (.int .i64 q.op)).setCell ⟨g, i * 13 + 1, none⟩ (.int .i64 q.cmp)).setCell ⟨g, i * 13 + 2, none⟩ (.int .i64 q.l.k)).setCell ⟨g, i * 13 + 3, none⟩ (.int .i64 q.l.i)).setCell ⟨g, i * 13 + 4, none⟩ (.int .i64 q.l.v.k)).setCell ⟨g, i * 13 + 5, none⟩ (.int .i64 q.l.v.n)).setCell ⟨g, i * 13 + 6, none⟩ (.string q.l.v.t)).setCell ⟨g, i * 13 + 7, none⟩ (.int .i64 q.r.k)).setCell ⟨g, i * 13 + 8, none⟩ (.int .i64 q.r.i)).setCell ⟨g, i * 13 + 9, none⟩ (.int .i64 q.r.v.k)).setCell ⟨g, i * 13 + 10, none⟩ (.int .i64 q.r.v.n)).setCell ⟨g, i * 13 + 11, none⟩ (.string q.r.v.t)).setCell ⟨g, i * 13 + 12, none⟩ t) (some g) := by
  rw [← cellsR_put q t qs i hi]
  have h1 := (h).stored (i * 13) (.int .i64 q.op)
  have h2 := (h1.1).stored (i * 13 + 1) (.int .i64 q.cmp)
  have h3 := (h2.1).stored (i * 13 + 2) (.int .i64 q.l.k)
  have h4 := (h3.1).stored (i * 13 + 3) (.int .i64 q.l.i)
  have h5 := (h4.1).stored (i * 13 + 4) (.int .i64 q.l.v.k)
  have h6 := (h5.1).stored (i * 13 + 5) (.int .i64 q.l.v.n)
  have h7 := (h6.1).stored (i * 13 + 6) (.string q.l.v.t)
  have h8 := (h7.1).stored (i * 13 + 7) (.int .i64 q.r.k)
  have h9 := (h8.1).stored (i * 13 + 8) (.int .i64 q.r.i)
  have h10 := (h9.1).stored (i * 13 + 9) (.int .i64 q.r.v.k)
  have h11 := (h10.1).stored (i * 13 + 10) (.int .i64 q.r.v.n)
  have h12 := (h11.1).stored (i * 13 + 11) (.string q.r.v.t)
  have h13 := (h12.1).stored (i * 13 + 12) t
  exact ⟨h13.1, by_trans (by_trans (by_trans (by_trans (by_trans (by_trans (by_trans (by_trans (by_trans (by_trans (by_trans (by_trans (h1.2) h2.2) h3.2) h4.2) h5.2) h6.2) h7.2) h8.2) h9.2) h10.2) h11.2) h12.2) h13.2⟩
/-- Arguments in blocks that were there before a block of the call's own. -/
theorem own_args {S : Nat → Prop} {w4 w5 w6 : World} {k : Nat} {s : Value} {ps : List Pr} {r : Option Nat} (h : PrIn S w4 k s ps) (h5 : w4.grownBy w5 none) (h6 : w5.grownBy w6 r) (hr : ∀ g, r = some g → w4.heap.size ≤ g) : PrIn S w6 k s ps :=
  (((h.mono fun g hlt hS => (⟨hS, hlt⟩ : S g ∧ g < w4.heap.size)).kept (kept_by h5 fun g e => by cases e)).kept (kept_by h6 fun g e hS => by have := hr g e; have := hS.2; omega)).mono fun g _ hS => hS.1
theorem one_in' {S : Nat → Prop} {w5 : World} {m : Nat} {p : Pr} {s : Value} {T : TypeId} (h : PrIn S w5 m s p.args) (h5 : S w5.heap.size) : PrIn S (w5.alloc (pBlock p s T)) (m + 1) (.slice (some ⟨w5.heap.size, 0, none⟩) 1 1) [p] := one_in h (fun _ h => h) h5
/-- What SpoilPredicate answers: some predicate. -/
def GotSpoil (S : Nat → Prop) (b : Nat) (c : CaseId) (w : World) (e : Ending) (w' : World) : Prop :=
  ∃ (q : Pr) (t : Value) (k' : Nat), e = .returned (q.val t) ∧ PrIn (fun g => S g ∨ w.heap.size ≤ g) w' k' t q.args ∧ CaseAt w' b c ∧ w.grownBy w' (some b)
def SpoilAt (b : Nat) (c : CaseId) (k : Nat) (p : Pr) : Prop :=
  ∀ (S : Nat → Prop) (s : Value) (w : World), ¬ S b → countP p ≤ 1000 → CaseAt w b c → PrIn S w k s p.args → Calls Tryd.prog 23 #[.pointer (some ⟨b, 0, none⟩), p.val s] w (GotSpoil S b c w)
theorem count_args (p : Pr) : countP p = 1 + countL p.args := by cases p; rw [countP]; rfl
/-- The box of the predicate at work, the box of the result, and what they hang on. -/
structure SpInv (S : Nat → Prop) (w : World) (b : Nat) (c : CaseId) (wx : World) (p : Pr) (t : Value) (k : Nat) : Prop where
  x : PBx wx w.heap.size p t
  z : PBx wx (w.heap.size + 1) (.mk 0 0 zeroO zeroO []) (.slice none 0 0)
  pin : PrIn (fun g => (S g ∧ g < w.heap.size) ∨ w.heap.size + 1 < g) wx k t p.args
  ca : CaseAt wx b c
  gb : w.grownBy wx (some b)
  h0 : CaseAt w b c
  ns : ¬ S b
section
variable {S : Nat → Prop} {w wx w' : World} {b : Nat} {c : CaseId} {p : Pr} {t : Value} {k : Nat}
theorem SpInv.far (h : SpInv S w b c wx p t k) : ¬ (fun g => (S g ∧ g < w.heap.size) ∨ w.heap.size + 1 < g) b := by
  have := h.h0.lt
  rintro (⟨h1, -⟩ | h1)
  · exact h.ns h1
  · omega
theorem SpInv.by_ (h : SpInv S w b c wx p t k) (hg : wx.grownBy w' (some b)) (hc : CaseAt w' b c) : SpInv S w b c w' p t k :=
  have := h.h0.lt
  ⟨h.x.by_ hg (by simp; omega), h.z.by_ hg (by simp; omega), h.pin.kept (kept_by hg fun g e => by cases e; exact h.far), hc, by_trans h.gb hg, h.h0, h.ns⟩
theorem SpInv.grown (h : SpInv S w b c wx p t k) (hg : wx.grownBy w' none) : SpInv S w b c w' p t k :=
  ⟨h.x.by_ hg (by simp), h.z.by_ hg (by simp), h.pin.kept (kept_by hg fun g e => by cases e), h.ca.grown hg, by_trans h.gb (by_some hg _), h.h0, h.ns⟩
/-- Behind a change of a block of the call's own. -/
theorem SpInv.own (h : SpInv S w b c wx p t k) {r : Option Nat} (hg : wx.grownBy w' r) (hr : ∀ g, r = some g → w.heap.size + 1 < g) (hp : PrIn (fun g => (S g ∧ g < w.heap.size) ∨ w.heap.size + 1 < g) w' k t p.args) : SpInv S w b c w' p t k :=
  have := h.h0.lt
  ⟨h.x.by_ hg (fun e => by have := hr _ e; omega), h.z.by_ hg (fun e => by have := hr _ e; omega), hp, h.h0.kept h.ca hg (fun g e => by have := hr g e; omega), by_own h.gb hg (fun g e => by have := hr g e; omega), h.h0, h.ns⟩
theorem put_pin {ps : List Pr} {s : Value} (h : PrIn (fun g => (S g ∧ g < w.heap.size) ∨ w.heap.size + 1 < g) wx k s ps) (o : Nat) (v : Value) : PrIn (fun g => (S g ∧ g < w.heap.size) ∨ w.heap.size + 1 < g) (wx.setCell ⟨w.heap.size, o, none⟩ v) k s ps :=
  h.kept (kept_by by_store fun g e hS => by cases e; rcases hS with ⟨-, h⟩ | h <;> omega)
theorem SpInv.put (h : SpInv S w b c wx p t k) (o : Nat) (v : Value) {q : Pr} {s : Value} {k' : Nat} (hx : PBx (wx.setCell ⟨w.heap.size, o, none⟩ v) w.heap.size q s) (hp : PrIn (fun g => (S g ∧ g < w.heap.size) ∨ w.heap.size + 1 < g) wx k' s q.args) : SpInv S w b c (wx.setCell ⟨w.heap.size, o, none⟩ v) q s k' :=
  ⟨hx, h.z.by_ by_store (by simp), put_pin hp o v, h.h0.stored h.ca (Nat.le_refl _) _, by_store_new h.gb (Nat.le_refl _) _, h.h0, h.ns⟩
theorem PBx.set0 {g : Nat} (h : PBx wx g p t) (y : Int) : PBx (wx.setCell ⟨g, 0, none⟩ (.int .i64 y)) g (.mk y p.cmp ⟨p.l.k, p.l.i, p.l.v⟩ ⟨p.r.k, p.r.i, p.r.v⟩ p.args) t := by
  obtain ⟨op, cmp, ⟨lk, li, ⟨lvk, lvn, lvt⟩⟩, ⟨rk, ri, ⟨rvk, rvn, rvt⟩⟩, args⟩ := p
  obtain ⟨⟨hl, c0, c1, c2, c3, c4, c5, c6, c7, c8, c9, c10, c11, c12⟩, f⟩ := h
  simp only [Pr.op, Pr.cmp, Pr.l, Pr.r, Pr.args] at c0 c1 c2 c3 c4 c5 c6 c7 c8 c9 c10 c11
  exact ⟨⟨by simpa using hl, by simp only [Pr.op, Pr.cmp, Pr.l, Pr.r]; go_simp, by simp only [Pr.op, Pr.cmp, Pr.l, Pr.r]; go_simp, by simp only [Pr.op, Pr.cmp, Pr.l, Pr.r]; go_simp, by simp only [Pr.op, Pr.cmp, Pr.l, Pr.r]; go_simp, by simp only [Pr.op, Pr.cmp, Pr.l, Pr.r]; go_simp, by simp only [Pr.op, Pr.cmp, Pr.l, Pr.r]; go_simp, by simp only [Pr.op, Pr.cmp, Pr.l, Pr.r]; go_simp, by simp only [Pr.op, Pr.cmp, Pr.l, Pr.r]; go_simp, by simp only [Pr.op, Pr.cmp, Pr.l, Pr.r]; go_simp, by simp only [Pr.op, Pr.cmp, Pr.l, Pr.r]; go_simp, by simp only [Pr.op, Pr.cmp, Pr.l, Pr.r]; go_simp, by simp only [Pr.op, Pr.cmp, Pr.l, Pr.r]; go_simp, by go_simp⟩, fun o => by have := f o; go_simp⟩
theorem SpInv.set0 (h : SpInv S w b c wx p t k) (y : Int) : SpInv S w b c (wx.setCell ⟨w.heap.size, 0, none⟩ (.int .i64 y)) (.mk y p.cmp ⟨p.l.k, p.l.i, p.l.v⟩ ⟨p.r.k, p.r.i, p.r.v⟩ p.args) t k := h.put 0 _ (h.x.set0 y) h.pin
theorem PBx.set1 {g : Nat} (h : PBx wx g p t) (y : Int) : PBx (wx.setCell ⟨g, 1, none⟩ (.int .i64 y)) g (.mk p.op y ⟨p.l.k, p.l.i, p.l.v⟩ ⟨p.r.k, p.r.i, p.r.v⟩ p.args) t := by
  obtain ⟨op, cmp, ⟨lk, li, ⟨lvk, lvn, lvt⟩⟩, ⟨rk, ri, ⟨rvk, rvn, rvt⟩⟩, args⟩ := p
  obtain ⟨⟨hl, c0, c1, c2, c3, c4, c5, c6, c7, c8, c9, c10, c11, c12⟩, f⟩ := h
  simp only [Pr.op, Pr.cmp, Pr.l, Pr.r, Pr.args] at c0 c1 c2 c3 c4 c5 c6 c7 c8 c9 c10 c11
  exact ⟨⟨by simpa using hl, by simp only [Pr.op, Pr.cmp, Pr.l, Pr.r]; go_simp, by simp only [Pr.op, Pr.cmp, Pr.l, Pr.r]; go_simp, by simp only [Pr.op, Pr.cmp, Pr.l, Pr.r]; go_simp, by simp only [Pr.op, Pr.cmp, Pr.l, Pr.r]; go_simp, by simp only [Pr.op, Pr.cmp, Pr.l, Pr.r]; go_simp, by simp only [Pr.op, Pr.cmp, Pr.l, Pr.r]; go_simp, by simp only [Pr.op, Pr.cmp, Pr.l, Pr.r]; go_simp, by simp only [Pr.op, Pr.cmp, Pr.l, Pr.r]; go_simp, by simp only [Pr.op, Pr.cmp, Pr.l, Pr.r]; go_simp, by simp only [Pr.op, Pr.cmp, Pr.l, Pr.r]; go_simp, by simp only [Pr.op, Pr.cmp, Pr.l, Pr.r]; go_simp, by simp only [Pr.op, Pr.cmp, Pr.l, Pr.r]; go_simp, by go_simp⟩, fun o => by have := f o; go_simp⟩
theorem SpInv.set1 (h : SpInv S w b c wx p t k) (y : Int) : SpInv S w b c (wx.setCell ⟨w.heap.size, 1, none⟩ (.int .i64 y)) (.mk p.op y ⟨p.l.k, p.l.i, p.l.v⟩ ⟨p.r.k, p.r.i, p.r.v⟩ p.args) t k := h.put 1 _ (h.x.set1 y) h.pin
theorem PBx.set2 {g : Nat} (h : PBx wx g p t) (y : Int) : PBx (wx.setCell ⟨g, 2, none⟩ (.int .i64 y)) g (.mk p.op p.cmp ⟨y, p.l.i, p.l.v⟩ ⟨p.r.k, p.r.i, p.r.v⟩ p.args) t := by
  obtain ⟨op, cmp, ⟨lk, li, ⟨lvk, lvn, lvt⟩⟩, ⟨rk, ri, ⟨rvk, rvn, rvt⟩⟩, args⟩ := p
  obtain ⟨⟨hl, c0, c1, c2, c3, c4, c5, c6, c7, c8, c9, c10, c11, c12⟩, f⟩ := h
  simp only [Pr.op, Pr.cmp, Pr.l, Pr.r, Pr.args] at c0 c1 c2 c3 c4 c5 c6 c7 c8 c9 c10 c11
  exact ⟨⟨by simpa using hl, by simp only [Pr.op, Pr.cmp, Pr.l, Pr.r]; go_simp, by simp only [Pr.op, Pr.cmp, Pr.l, Pr.r]; go_simp, by simp only [Pr.op, Pr.cmp, Pr.l, Pr.r]; go_simp, by simp only [Pr.op, Pr.cmp, Pr.l, Pr.r]; go_simp, by simp only [Pr.op, Pr.cmp, Pr.l, Pr.r]; go_simp, by simp only [Pr.op, Pr.cmp, Pr.l, Pr.r]; go_simp, by simp only [Pr.op, Pr.cmp, Pr.l, Pr.r]; go_simp, by simp only [Pr.op, Pr.cmp, Pr.l, Pr.r]; go_simp, by simp only [Pr.op, Pr.cmp, Pr.l, Pr.r]; go_simp, by simp only [Pr.op, Pr.cmp, Pr.l, Pr.r]; go_simp, by simp only [Pr.op, Pr.cmp, Pr.l, Pr.r]; go_simp, by simp only [Pr.op, Pr.cmp, Pr.l, Pr.r]; go_simp, by go_simp⟩, fun o => by have := f o; go_simp⟩
theorem SpInv.set2 (h : SpInv S w b c wx p t k) (y : Int) : SpInv S w b c (wx.setCell ⟨w.heap.size, 2, none⟩ (.int .i64 y)) (.mk p.op p.cmp ⟨y, p.l.i, p.l.v⟩ ⟨p.r.k, p.r.i, p.r.v⟩ p.args) t k := h.put 2 _ (h.x.set2 y) h.pin
theorem PBx.set3 {g : Nat} (h : PBx wx g p t) (y : Int) : PBx (wx.setCell ⟨g, 3, none⟩ (.int .i64 y)) g (.mk p.op p.cmp ⟨p.l.k, y, p.l.v⟩ ⟨p.r.k, p.r.i, p.r.v⟩ p.args) t := by
  obtain ⟨op, cmp, ⟨lk, li, ⟨lvk, lvn, lvt⟩⟩, ⟨rk, ri, ⟨rvk, rvn, rvt⟩⟩, args⟩ := p
  obtain ⟨⟨hl, c0, c1, c2, c3, c4, c5, c6, c7, c8, c9, c10, c11, c12⟩, f⟩ := h
  simp only [Pr.op, Pr.cmp, Pr.l, Pr.r, Pr.args] at c0 c1 c2 c3 c4 c5 c6 c7 c8 c9 c10 c11
  exact ⟨⟨by simpa using hl, by simp only [Pr.op, Pr.cmp, Pr.l, Pr.r]; go_simp, by simp only [Pr.op, Pr.cmp, Pr.l, Pr.r]; go_simp, by simp only [Pr.op, Pr.cmp, Pr.l, Pr.r]; go_simp, by simp only [Pr.op, Pr.cmp, Pr.l, Pr.r]; go_simp, by simp only [Pr.op, Pr.cmp, Pr.l, Pr.r]; go_simp, by simp only [Pr.op, Pr.cmp, Pr.l, Pr.r]; go_simp, by simp only [Pr.op, Pr.cmp, Pr.l, Pr.r]; go_simp, by simp only [Pr.op, Pr.cmp, Pr.l, Pr.r]; go_simp, by simp only [Pr.op, Pr.cmp, Pr.l, Pr.r]; go_simp, by simp only [Pr.op, Pr.cmp, Pr.l, Pr.r]; go_simp, by simp only [Pr.op, Pr.cmp, Pr.l, Pr.r]; go_simp, by simp only [Pr.op, Pr.cmp, Pr.l, Pr.r]; go_simp, by go_simp⟩, fun o => by have := f o; go_simp⟩
theorem SpInv.set3 (h : SpInv S w b c wx p t k) (y : Int) : SpInv S w b c (wx.setCell ⟨w.heap.size, 3, none⟩ (.int .i64 y)) (.mk p.op p.cmp ⟨p.l.k, y, p.l.v⟩ ⟨p.r.k, p.r.i, p.r.v⟩ p.args) t k := h.put 3 _ (h.x.set3 y) h.pin
theorem PBx.set8 {g : Nat} (h : PBx wx g p t) (y : Int) : PBx (wx.setCell ⟨g, 8, none⟩ (.int .i64 y)) g (.mk p.op p.cmp ⟨p.l.k, p.l.i, p.l.v⟩ ⟨p.r.k, y, p.r.v⟩ p.args) t := by
  obtain ⟨op, cmp, ⟨lk, li, ⟨lvk, lvn, lvt⟩⟩, ⟨rk, ri, ⟨rvk, rvn, rvt⟩⟩, args⟩ := p
  obtain ⟨⟨hl, c0, c1, c2, c3, c4, c5, c6, c7, c8, c9, c10, c11, c12⟩, f⟩ := h
  simp only [Pr.op, Pr.cmp, Pr.l, Pr.r, Pr.args] at c0 c1 c2 c3 c4 c5 c6 c7 c8 c9 c10 c11
  exact ⟨⟨by simpa using hl, by simp only [Pr.op, Pr.cmp, Pr.l, Pr.r]; go_simp, by simp only [Pr.op, Pr.cmp, Pr.l, Pr.r]; go_simp, by simp only [Pr.op, Pr.cmp, Pr.l, Pr.r]; go_simp, by simp only [Pr.op, Pr.cmp, Pr.l, Pr.r]; go_simp, by simp only [Pr.op, Pr.cmp, Pr.l, Pr.r]; go_simp, by simp only [Pr.op, Pr.cmp, Pr.l, Pr.r]; go_simp, by simp only [Pr.op, Pr.cmp, Pr.l, Pr.r]; go_simp, by simp only [Pr.op, Pr.cmp, Pr.l, Pr.r]; go_simp, by simp only [Pr.op, Pr.cmp, Pr.l, Pr.r]; go_simp, by simp only [Pr.op, Pr.cmp, Pr.l, Pr.r]; go_simp, by simp only [Pr.op, Pr.cmp, Pr.l, Pr.r]; go_simp, by simp only [Pr.op, Pr.cmp, Pr.l, Pr.r]; go_simp, by go_simp⟩, fun o => by have := f o; go_simp⟩
theorem SpInv.set8 (h : SpInv S w b c wx p t k) (y : Int) : SpInv S w b c (wx.setCell ⟨w.heap.size, 8, none⟩ (.int .i64 y)) (.mk p.op p.cmp ⟨p.l.k, p.l.i, p.l.v⟩ ⟨p.r.k, y, p.r.v⟩ p.args) t k := h.put 8 _ (h.x.set8 y) h.pin
theorem PBx.setv {g : Nat} (h : PBx wx g p t) (yk yn : Int) (yt : ByteArray) : PBx (((wx.setCell ⟨g, 9, none⟩ (.int .i64 yk)).setCell ⟨g, 10, none⟩ (.int .i64 yn)).setCell ⟨g, 11, none⟩ (.string yt)) g (.mk p.op p.cmp ⟨p.l.k, p.l.i, p.l.v⟩ ⟨p.r.k, p.r.i, ⟨yk, yn, yt⟩⟩ p.args) t := by
  obtain ⟨op, cmp, ⟨lk, li, ⟨lvk, lvn, lvt⟩⟩, ⟨rk, ri, ⟨rvk, rvn, rvt⟩⟩, args⟩ := p
  obtain ⟨⟨hl, c0, c1, c2, c3, c4, c5, c6, c7, c8, c9, c10, c11, c12⟩, f⟩ := h
  simp only [Pr.op, Pr.cmp, Pr.l, Pr.r, Pr.args] at c0 c1 c2 c3 c4 c5 c6 c7 c8 c9 c10 c11
  exact ⟨⟨by simpa using hl, by simp only [Pr.op, Pr.cmp, Pr.l, Pr.r]; go_simp, by simp only [Pr.op, Pr.cmp, Pr.l, Pr.r]; go_simp, by simp only [Pr.op, Pr.cmp, Pr.l, Pr.r]; go_simp, by simp only [Pr.op, Pr.cmp, Pr.l, Pr.r]; go_simp, by simp only [Pr.op, Pr.cmp, Pr.l, Pr.r]; go_simp, by simp only [Pr.op, Pr.cmp, Pr.l, Pr.r]; go_simp, by simp only [Pr.op, Pr.cmp, Pr.l, Pr.r]; go_simp, by simp only [Pr.op, Pr.cmp, Pr.l, Pr.r]; go_simp, by simp only [Pr.op, Pr.cmp, Pr.l, Pr.r]; go_simp, by simp only [Pr.op, Pr.cmp, Pr.l, Pr.r]; go_simp, by simp only [Pr.op, Pr.cmp, Pr.l, Pr.r]; go_simp, by simp only [Pr.op, Pr.cmp, Pr.l, Pr.r]; go_simp, by go_simp⟩, fun o => by have := f o; go_simp⟩
theorem SpInv.setv (h : SpInv S w b c wx p t k) (yk yn : Int) (yt : ByteArray) : SpInv S w b c (((wx.setCell ⟨w.heap.size, 9, none⟩ (.int .i64 yk)).setCell ⟨w.heap.size, 10, none⟩ (.int .i64 yn)).setCell ⟨w.heap.size, 11, none⟩ (.string yt)) (.mk p.op p.cmp ⟨p.l.k, p.l.i, p.l.v⟩ ⟨p.r.k, p.r.i, ⟨yk, yn, yt⟩⟩ p.args) t k :=
  ⟨h.x.setv yk yn yt, ((h.z.by_ by_store (by simp)).by_ by_store (by simp)).by_ by_store (by simp), put_pin (put_pin (put_pin h.pin 9 _) 10 _) 11 _, h.h0.stored (h.h0.stored (h.h0.stored h.ca (Nat.le_refl _) _) (Nat.le_refl _) _) (Nat.le_refl _) _, by_store_new (by_store_new (by_store_new h.gb (Nat.le_refl _) _) (Nat.le_refl _) _) (Nat.le_refl _) _, h.h0, h.ns⟩
theorem PBx.args_any {g : Nat} (h : PBx wx g p t) (ps : List Pr) : PBx wx g (.mk p.op p.cmp p.l p.r ps) t := by
  obtain ⟨⟨hl, c0, c1, c2, c3, c4, c5, c6, c7, c8, c9, c10, c11, c12⟩, f⟩ := h
  exact ⟨⟨hl, c0, c1, c2, c3, c4, c5, c6, c7, c8, c9, c10, c11, c12⟩, f⟩
theorem SpInv.args (h : SpInv S w b c wx p t k) (ps : List Pr) (s : Value) {k' : Nat} (hp : PrIn (fun g => (S g ∧ g < w.heap.size) ∨ w.heap.size + 1 < g) wx k' s ps) : SpInv S w b c (wx.setCell ⟨w.heap.size, 12, none⟩ s) (.mk p.op p.cmp p.l p.r ps) s k' :=
  h.put 12 s ((h.x.args s).args_any ps) hp
theorem SpInv.all (h : SpInv S w b c wx p t k) (q : Pr) (s : Value) {k' : Nat} (hp : PrIn (fun g => (S g ∧ g < w.heap.size) ∨ w.heap.size + 1 < g) wx k' s q.args) : SpInv S w b c (((((((((((((wx.setCell ⟨w.heap.size, 0, none⟩ (.int .i64 q.op)).setCell ⟨w.heap.size, 1, none⟩ (.int .i64 q.cmp)).setCell ⟨w.heap.size, 2, none⟩ (.int .i64 q.l.k)).setCell ⟨w.heap.size, 3, none⟩ (.int .i64 q.l.i)).setCell ⟨w.heap.size, 4, none⟩ (.int .i64 q.l.v.k)).setCell ⟨w.heap.size, 5, none⟩ (.int .i64 q.l.v.n)).setCell ⟨w.heap.size, 6, none⟩ (.string q.l.v.t)).setCell ⟨w.heap.size, 7, none⟩ (.int .i64 q.r.k)).setCell ⟨w.heap.size, 8, none⟩ (.int .i64 q.r.i)).setCell ⟨w.heap.size, 9, none⟩ (.int .i64 q.r.v.k)).setCell ⟨w.heap.size, 10, none⟩ (.int .i64 q.r.v.n)).setCell ⟨w.heap.size, 11, none⟩ (.string q.r.v.t)).setCell ⟨w.heap.size, 12, none⟩ s) q s k' :=
  ⟨h.x.all q s, h.z.by_ (chain_by wx w.heap.size _ _ _ _ _ _ _ _ _ _ _ _ _) (by simp), hp.kept (kept_by (chain_by wx w.heap.size _ _ _ _ _ _ _ _ _ _ _ _ _) fun g e hS => by cases e; rcases hS with ⟨-, h⟩ | h <;> omega),
   h.h0.stored (h.h0.stored (h.h0.stored (h.h0.stored (h.h0.stored (h.h0.stored (h.h0.stored (h.h0.stored (h.h0.stored (h.h0.stored (h.h0.stored (h.h0.stored (h.h0.stored h.ca (Nat.le_refl _) _) (Nat.le_refl _) _) (Nat.le_refl _) _) (Nat.le_refl _) _) (Nat.le_refl _) _) (Nat.le_refl _) _) (Nat.le_refl _) _) (Nat.le_refl _) _) (Nat.le_refl _) _) (Nat.le_refl _) _) (Nat.le_refl _) _) (Nat.le_refl _) _) (Nat.le_refl _) _, by_store_new (by_store_new (by_store_new (by_store_new (by_store_new (by_store_new (by_store_new (by_store_new (by_store_new (by_store_new (by_store_new (by_store_new (by_store_new h.gb (Nat.le_refl _) _) (Nat.le_refl _) _) (Nat.le_refl _) _) (Nat.le_refl _) _) (Nat.le_refl _) _) (Nat.le_refl _) _) (Nat.le_refl _) _) (Nat.le_refl _) _) (Nat.le_refl _) _) (Nat.le_refl _) _) (Nat.le_refl _) _) (Nat.le_refl _) _) (Nat.le_refl _) _, h.h0, h.ns⟩
theorem sp_fin {ps : List Pr} (h0 : CaseAt w b c) (hc : CaseAt wx b c) (hg : w.grownBy wx (some b)) (hp : PrIn (fun g => (S g ∧ g < w.heap.size) ∨ w.heap.size + 1 < g) wx k t ps) (x0 x1 x2 x3 x4 x5 x6 x7 x8 x9 x10 x11 x12 : Value) :
    PrIn (fun g => S g ∨ w.heap.size ≤ g) (((((((((((((wx.setCell ⟨w.heap.size + 1, 0, none⟩ x0).setCell ⟨w.heap.size + 1, 1, none⟩ x1).setCell ⟨w.heap.size + 1, 2, none⟩ x2).setCell ⟨w.heap.size + 1, 3, none⟩ x3).setCell ⟨w.heap.size + 1, 4, none⟩ x4).setCell ⟨w.heap.size + 1, 5, none⟩ x5).setCell ⟨w.heap.size + 1, 6, none⟩ x6).setCell ⟨w.heap.size + 1, 7, none⟩ x7).setCell ⟨w.heap.size + 1, 8, none⟩ x8).setCell ⟨w.heap.size + 1, 9, none⟩ x9).setCell ⟨w.heap.size + 1, 10, none⟩ x10).setCell ⟨w.heap.size + 1, 11, none⟩ x11).setCell ⟨w.heap.size + 1, 12, none⟩ x12) k t ps ∧ CaseAt (((((((((((((wx.setCell ⟨w.heap.size + 1, 0, none⟩ x0).setCell ⟨w.heap.size + 1, 1, none⟩ x1).setCell ⟨w.heap.size + 1, 2, none⟩ x2).setCell ⟨w.heap.size + 1, 3, none⟩ x3).setCell ⟨w.heap.size + 1, 4, none⟩ x4).setCell ⟨w.heap.size + 1, 5, none⟩ x5).setCell ⟨w.heap.size + 1, 6, none⟩ x6).setCell ⟨w.heap.size + 1, 7, none⟩ x7).setCell ⟨w.heap.size + 1, 8, none⟩ x8).setCell ⟨w.heap.size + 1, 9, none⟩ x9).setCell ⟨w.heap.size + 1, 10, none⟩ x10).setCell ⟨w.heap.size + 1, 11, none⟩ x11).setCell ⟨w.heap.size + 1, 12, none⟩ x12) b c ∧ w.grownBy (((((((((((((wx.setCell ⟨w.heap.size + 1, 0, none⟩ x0).setCell ⟨w.heap.size + 1, 1, none⟩ x1).setCell ⟨w.heap.size + 1, 2, none⟩ x2).setCell ⟨w.heap.size + 1, 3, none⟩ x3).setCell ⟨w.heap.size + 1, 4, none⟩ x4).setCell ⟨w.heap.size + 1, 5, none⟩ x5).setCell ⟨w.heap.size + 1, 6, none⟩ x6).setCell ⟨w.heap.size + 1, 7, none⟩ x7).setCell ⟨w.heap.size + 1, 8, none⟩ x8).setCell ⟨w.heap.size + 1, 9, none⟩ x9).setCell ⟨w.heap.size + 1, 10, none⟩ x10).setCell ⟨w.heap.size + 1, 11, none⟩ x11).setCell ⟨w.heap.size + 1, 12, none⟩ x12) (some b) :=
  have hH : w.heap.size ≤ w.heap.size + 1 := Nat.le_succ _
  ⟨(hp.kept (kept_by (chain_by wx (w.heap.size + 1) x0 x1 x2 x3 x4 x5 x6 x7 x8 x9 x10 x11 x12) fun g e hS => by cases e; rcases hS with ⟨-, h⟩ | h <;> omega)).mono fun g _ hS => hS.imp (fun h => h.1) (fun h => by omega), h0.stored (h0.stored (h0.stored (h0.stored (h0.stored (h0.stored (h0.stored (h0.stored (h0.stored (h0.stored (h0.stored (h0.stored (h0.stored (hc) hH _) hH _) hH _) hH _) hH _) hH _) hH _) hH _) hH _) hH _) hH _) hH _) hH _, by_store_new (by_store_new (by_store_new (by_store_new (by_store_new (by_store_new (by_store_new (by_store_new (by_store_new (by_store_new (by_store_new (by_store_new (by_store_new (hg) hH _) hH _) hH _) hH _) hH _) hH _) hH _) hH _) hH _) hH _) hH _) hH _) hH _⟩
theorem own_at0 {g base n cap : Nat} {qs : List (Pr × Value)} (h : wx.ownsRow base 60 13 (.slice (some ⟨g, 0, none⟩) n cap) n (cellsR qs)) (hn : n = qs.length) {i : Nat} (hi : i < qs.length) : PrAt wx g (i * 13) qs[i].1 qs[i].2 := by
  have hc : ∀ j (hj : j < 13), wx.cell? ⟨g, i * 13 + j, none⟩ = (cellsO qs[i].1 qs[i].2)[j]? := fun j hj => (h.cellAt _ (by omega)).trans (cellsR_at qs i j hi hj)
  exact ⟨(hc 0 (by omega)), (hc 1 (by omega)), (hc 2 (by omega)), (hc 3 (by omega)), (hc 4 (by omega)), (hc 5 (by omega)), (hc 6 (by omega)), (hc 7 (by omega)), (hc 8 (by omega)), (hc 9 (by omega)), (hc 10 (by omega)), (hc 11 (by omega)), (hc 12 (by omega))⟩
theorem own_at {g base n cap : Nat} {qs : List (Pr × Value)} (h : wx.ownsRow base 60 13 (.slice (some ⟨g, 0, none⟩) n cap) n (cellsR qs)) (hn : n = qs.length) {i : Nat} {x : Pr} {s : Value} (hq : qs[i]? = some (x, s)) : PrAt wx g (i * 13) x s := by
  obtain ⟨hi, e⟩ := List.getElem?_eq_some_iff.1 hq
  have h1 := own_at0 h hn hi
  rw [e] at h1
  exact h1
end
set_option maxHeartbeats 20000000 in
set_option maxRecDepth 100000 in
theorem spoil_step (b : Nat) (c : CaseId) (k : Nat) (p : Pr) (ih : ∀ q ∈ p.args, SpoilAt b c k q) : SpoilAt b c (k + 1) p := by
  intro S s w hSb hcnt hc hp
  have mx := mixed
  obtain ⟨sa, sc, rfl, hsl⟩ := hp.shape
  obtain ⟨W, hW⟩ : ∃ W, W = (w.alloc (pBlock p (.slice sa p.args.length sc) 60)).alloc (.cells #[.int .i64 0, .int .i64 0, .int .i64 0, .int .i64 0, .int .i64 0, .int .i64 0, .string ⟨#[]⟩, .int .i64 0, .int .i64 0, .int .i64 0, .int .i64 0, .string ⟨#[]⟩, .slice none 0 0] 60) := ⟨_, rfl⟩
  have hg : Gro w W := by rw [hW]; exact ((Gro.refl w).alloc _).alloc _
  have hinv : SpInv S w b c W p (.slice sa p.args.length sc) (k + 1) := by
    refine ⟨?_, ?_, (hp.mono fun g hlt hS => .inl ⟨hS, hlt⟩).later hg.below, hc.grown (gro_by hg none), gro_by hg _, hc, hSb⟩
    · rw [hW]; exact (PBx.new w p _ _).by_ (World.grownBy_alloc _ _ none) (by simp)
    · have h := PBx.new (w.alloc (pBlock p (.slice sa p.args.length sc) 60)) (.mk 0 0 zeroO zeroO []) (.slice none 0 0) 60
      have e : (w.alloc (pBlock p (.slice sa p.args.length sc) 60)).heap.size = w.heap.size + 1 := by simp
      rw [e] at h; rw [hW]; exact h
  have HCNT : Hid (1 + countL p.args ≤ 1000) := by show _ ≤ _; rw [← count_args]; exact hcnt
  have HLEN : Hid (p.args.length ≤ 999) := by have := HCNT.out; have := length_countL p.args; show _ ≤ _; omega
  have HIN := Lib.hid hinv
  have HIH := Lib.hid ih
  have HW := Lib.hid hW
  have HWS : Hid (W.heap.size = w.heap.size + 2) := by show _ = _; rw [hW]; simp
  clear hp hg ih hW hinv hcnt hc hsl hSb
  obtain ⟨op, cmp, ⟨lk, li, ⟨lvk, lvn, lvt⟩⟩, ⟨rk, ri, ⟨rvk, rvn, rvt⟩⟩, args⟩ := p
  replace HW : Hid (W = (w.alloc (.cells #[.int .i64 op, .int .i64 cmp, .int .i64 lk, .int .i64 li, .int .i64 lvk, .int .i64 lvn, .string lvt, .int .i64 rk, .int .i64 ri, .int .i64 rvk, .int .i64 rvn, .string rvt, .slice sa args.length sc] 60)).alloc (.cells #[.int .i64 0, .int .i64 0, .int .i64 0, .int .i64 0, .int .i64 0, .int .i64 0, .string ⟨#[]⟩, .int .i64 0, .int .i64 0, .int .i64 0, .int .i64 0, .string ⟨#[]⟩, .slice none 0 0] 60)) := HW.out
  replace HIN : Hid (SpInv S w b c W (.mk op cmp ⟨lk, li, ⟨lvk, lvn, lvt⟩⟩ ⟨rk, ri, ⟨rvk, rvn, rvt⟩⟩ args) (.slice sa args.length sc) (k + 1)) := HIN.out
  replace HLEN : Hid (args.length ≤ 999) := HLEN.out
  replace HCNT : Hid (1 + countL args ≤ 1000) := HCNT.out
  replace HIH : Hid (∀ q ∈ args, SpoilAt b c k q) := HIH.out
  show Calls _ _ #[.pointer (some ⟨b, 0, none⟩), .agg #[.int .i64 op, .int .i64 cmp, .int .i64 lk, .int .i64 li, .int .i64 lvk, .int .i64 lvn, .string lvt, .int .i64 rk, .int .i64 ri, .int .i64 rvk, .int .i64 rvn, .string rvt, .slice sa args.length sc]] _ _
  obtain ⟨N, hN⟩ : ∃ N, args.length = N := ⟨_, rfl⟩
  rw [hN] at HW HLEN HIN ⊢
  have HN := Lib.hid hN
  obtain ⟨ii, hii, hz, hsz, hby⟩ := info_parts infoR
  have HII := Lib.hid hii
  have HZ := Lib.hid hz
  have HSZ := Lib.hid hsz
  have HBY := Lib.hid hby
  clear hN hii hz hsz hby
  go_enter Tryd.func23, Tryd.ntmps23
  go_upto_region 1 with fail
  rw [← HW.out]
  clear HW
  go_cut [16] from 17 to 110 (fun v wr => ∃ q : Bool, v = .bool q ∧ (q = true → 0 < N) ∧ SpInv S w b c wr (.mk op cmp ⟨lk, li, ⟨lvk, lvn, lvt⟩⟩ ⟨rk, ri, ⟨rvk, rvn, rvt⟩⟩ args) (.slice sa N sc) (k + 1) ∧ w.heap.size + 2 ≤ wr.heap.size)
  case first =>
    obtain ⟨⟨l, b0, b1, b2, b3, b4, b5, b6, b7, b8, b9, b10, b11, b12⟩, f⟩ := HIN.out.x
    have HWL : Hid (w.heap.size + 2 ≤ W.heap.size) := by have := HWS.out; show _ ≤ _; omega
    by_cases h0 : N = 0
    · have d0 : decide ((N : Int) > 0) = false := by simp; omega
      have d0' : decide ((0 : Int) < (N : Int)) = false := by simp; omega
      have d0'' : decide (0 < N) = false := by simp; omega
      have d1 : ¬ 0 < N := by omega
      go_wp2_with fail
      go_meet
      case rel => exact ⟨false, rfl, (fun h => by cases h), HIN.out, HWL.out⟩
    · have d0 : decide ((N : Int) > 0) = true := by simp; omega
      have d0' : decide ((0 : Int) < (N : Int)) = true := by simp; omega
      have d0'' : decide (0 < N) = true := by simp; omega
      have d1 : 0 < N := by omega
      have HB := Lib.hid (boolp_calls b c 2 (by omega) (by omega) W HIN.out.ca)
      go_wp2_with fail
      refine HB.out.mono ?_
      rintro e w3 ⟨q, rfl, hc3, hby3⟩
      have HI3 := Lib.hid (HIN.out.by_ hby3 hc3)
      have HWL3 : Hid (w.heap.size + 2 ≤ w3.heap.size) := Nat.le_trans HWL.out hby3.size
      clear hc3 hby3 HB
      go_wp2_with fail
      go_meet
      case rel => exact ⟨q, rfl, fun _ => d1, HI3.out, HWL3.out⟩
  case rest =>
    obtain ⟨q, rfl, hq, hiq, hlq⟩ := hcut
    obtain ⟨wq, rfl⟩ : ∃ wq : World, wq = wc := ⟨_, rfl⟩
    have HIQ := Lib.hid hiq
    have HQ0 := Lib.hid hq
    have HLQ := Lib.hid hlq
    clear hq hiq hlq HIN
    cases q
    · clear HQ0 HIH
      have HI := Lib.hid (int_calls b c 9 (by omega) (by omega) wq HIQ.out.ca)
      go_wp2_with fail
      refine HI.out.mono ?_
      rintro e w4 ⟨x, rfl, hx0, hx1, hc4, hby4⟩
      have HX := Lib.hid (And.intro hx0 hx1)
      have HI4 := Lib.hid (HIQ.out.by_ hby4 hc4)
      have HL4 : Hid (w.heap.size + 2 ≤ w4.heap.size) := Nat.le_trans HLQ.out hby4.size
      clear hx0 hx1 hc4 hby4 HI HIQ HLQ
      go_upto_block 0 with fail
      go_cut [] from 41 to 110 (fun wx => ∃ (pf : Pr) (t : Value) (kf : Nat), SpInv S w b c wx pf t kf)
      case first =>
        have hxx := HX.out
        obtain hx | hx | hx | hx | hx | hx | hx | hx | hx : x = 0 ∨ x = 1 ∨ x = 2 ∨ x = 3 ∨ x = 4 ∨ x = 5 ∨ x = 6 ∨ x = 7 ∨ x = 8 := by omega
        · subst hx
          have HU := Lib.hid (casenumber_calls b c w4 HI4.out.ca)
          clear hxx
          go_wp2_with fail
          refine HU.out.mono ?_
          rintro e w5 ⟨y, rfl, hc5, hby5⟩
          have HI5 := Lib.hid (HI4.out.by_ hby5 hc5)
          clear hc5 hby5 HU
          obtain ⟨⟨l, b0, b1, b2, b3, b4, b5, b6, b7, b8, b9, b10, b11, b12⟩, f⟩ := HI5.out.x
          have hf := f 0
          go_wp2_with fail
          go_meet
          case rel => exact ⟨_, _, _, HI5.out.set0 y⟩
        · subst hx
          have HU := Lib.hid (casenumber_calls b c w4 HI4.out.ca)
          clear hxx
          go_wp2_with fail
          refine HU.out.mono ?_
          rintro e w5 ⟨y, rfl, hc5, hby5⟩
          have HI5 := Lib.hid (HI4.out.by_ hby5 hc5)
          clear hc5 hby5 HU
          obtain ⟨⟨l, b0, b1, b2, b3, b4, b5, b6, b7, b8, b9, b10, b11, b12⟩, f⟩ := HI5.out.x
          have hf := f 1
          go_wp2_with fail
          go_meet
          case rel => exact ⟨_, _, _, HI5.out.set1 y⟩
        · subst hx
          have HU := Lib.hid (casenumber_calls b c w4 HI4.out.ca)
          clear hxx
          go_wp2_with fail
          refine HU.out.mono ?_
          rintro e w5 ⟨y, rfl, hc5, hby5⟩
          have HI5 := Lib.hid (HI4.out.by_ hby5 hc5)
          clear hc5 hby5 HU
          obtain ⟨⟨l, b0, b1, b2, b3, b4, b5, b6, b7, b8, b9, b10, b11, b12⟩, f⟩ := HI5.out.x
          have hf := f 2
          go_wp2_with fail
          go_meet
          case rel => exact ⟨_, _, _, HI5.out.set2 y⟩
        · subst hx
          have HU := Lib.hid (casenumber_calls b c w4 HI4.out.ca)
          clear hxx
          go_wp2_with fail
          refine HU.out.mono ?_
          rintro e w5 ⟨y, rfl, hc5, hby5⟩
          have HI5 := Lib.hid (HI4.out.by_ hby5 hc5)
          clear hc5 hby5 HU
          obtain ⟨⟨l, b0, b1, b2, b3, b4, b5, b6, b7, b8, b9, b10, b11, b12⟩, f⟩ := HI5.out.x
          have hf := f 3
          go_wp2_with fail
          go_meet
          case rel => exact ⟨_, _, _, HI5.out.set3 y⟩
        · subst hx
          have HU := Lib.hid (any_calls b c w4 HI4.out.ca)
          clear hxx
          go_wp2_with fail
          refine HU.out.mono ?_
          rintro e w5 ⟨⟨yk, yn, yt⟩, rfl, -, -, hc5, hby5⟩
          have HI5 := Lib.hid (HI4.out.by_ hby5 hc5)
          clear hc5 hby5 HU
          obtain ⟨⟨l, b0, b1, b2, b3, b4, b5, b6, b7, b8, b9, b10, b11, b12⟩, f⟩ := HI5.out.x
          have hf := f 9
          have hf2 := f 10
          have hf3 := f 11
          go_wp2_with fail
          go_meet
          case rel => exact ⟨_, _, _, HI5.out.setv yk yn yt⟩
        · subst hx
          have HU := Lib.hid (casenumber_calls b c w4 HI4.out.ca)
          clear hxx
          go_wp2_with fail
          refine HU.out.mono ?_
          rintro e w5 ⟨y, rfl, hc5, hby5⟩
          have HI5 := Lib.hid (HI4.out.by_ hby5 hc5)
          clear hc5 hby5 HU
          obtain ⟨⟨l, b0, b1, b2, b3, b4, b5, b6, b7, b8, b9, b10, b11, b12⟩, f⟩ := HI5.out.x
          have hf := f 8
          go_wp2_with fail
          go_meet
          case rel => exact ⟨_, _, _, HI5.out.set8 y⟩
        · subst hx
          obtain ⟨⟨l, b0, b1, b2, b3, b4, b5, b6, b7, b8, b9, b10, b11, b12⟩, f⟩ := HI4.out.x
          have hf := f 12
          clear hxx
          obtain ⟨qs, hqm, hqn, hq0, hqr, hqc⟩ := HI4.out.pin.parts
          have HQM : Hid (qs.map (·.1) = args) := hqm
          have HQN : Hid (qs.length = N) := by show _ = _; rw [hqn, ← hqm, List.length_map]
          have HQ00 := Lib.hid hq0
          have HQR := Lib.hid hqr
          have HQC := Lib.hid hqc
          clear hqm hqn hq0 hqr hqc
          go_wp2_with (at_builtin; go_must (refine wpList_append_all rfl _ _ 50 rfl w4.heap.size 60 ii (.agg #[.int .i64 0, .int .i64 0, .int .i64 0, .int .i64 0, .int .i64 0, .int .i64 0, .string ⟨#[]⟩, .int .i64 0, .int .i64 0, .int .i64 0, .int .i64 0, .string ⟨#[]⟩, .slice none 0 0]) 13 136 Tryd.underlying50 HII.out HZ.out HSZ.out HBY.out rfl (by decide) _ 0 [] rfl (World.ownsRow_nil _ _ _ _) sa N sc (cellsR qs) rfl ?k10 ?k11 ?k12 ?k13 ?k14 ?k15 ?k16 ?_))
          case k10 => exact HQ00.out
          case k11 => rw [cellsR_length, HQN.out]
          case k12 => exact HQC.out
          case k13 => exact fun u hu => cellsR_one qs u hu fun q hq => (HQR.out q hq).oneCell
          case k14 => have := HLEN.out; unfold maxLen; omega
          case k15 => have := HLEN.out; omega
          case k16 => exact Nat.le_refl _
          intro v1 w5 ho1 hg1
          have hg1' : w4.grownBy w5 none := hg1
          have HI5 := Lib.hid (HI4.out.grown hg1')
          have HQR5 : Hid (∀ q ∈ qs, PrIn (fun g => (fun g => (S g ∧ g < w.heap.size) ∨ w.heap.size + 1 < g) g ∧ g < w4.heap.size) w5 k q.2 q.1.args) := fun q hq => ((HQR.out q hq).mono fun g hlt hS => ⟨hS, hlt⟩).kept (kept_by hg1' fun g e => by cases e)
          have hg45 := Lib.hid hg1'
          have HS45 : Hid (w4.heap.size ≤ w5.heap.size) := hg1'.size
          have ho1' : w5.ownsRow w4.heap.size 60 13 v1 N (cellsR qs) := by simpa using ho1
          have HO1 := Lib.hid ho1'
          clear ho1 ho1' hg1 hg1' l b0 b1 b2 b3 b4 b5 b6 b7 b8 b9 b10 b11 b12 f hf HQC HQR
          obtain ⟨⟨l, b0, b1, b2, b3, b4, b5, b6, b7, b8, b9, b10, b11, b12⟩, f⟩ := HI5.out.x
          have hf := f 12
          go_wp2_with (at_builtin; go_must (refine wpList_append_all rfl _ _ 50 rfl w4.heap.size 60 ii (.agg #[.int .i64 0, .int .i64 0, .int .i64 0, .int .i64 0, .int .i64 0, .int .i64 0, .string ⟨#[]⟩, .int .i64 0, .int .i64 0, .int .i64 0, .int .i64 0, .string ⟨#[]⟩, .slice none 0 0]) 13 136 Tryd.underlying50 HII.out HZ.out HSZ.out HBY.out rfl (by decide) _ N (cellsR qs) rfl (HO1.out.alloc _) (some ⟨w5.heap.size, 0, none⟩) 1 1 (cellsO (.mk 1 0 zeroO zeroO []) (.slice none 0 0)) rfl (fun h => (by cases h)) rfl (fun bb hbb => (by cases hbb; exact thirteen_new w5 _ _ _ _ _ _ _ _ _ _ _ _ _ _ _ rfl)) (by intro u hu; simp [cellsO] at hu; rcases hu with rfl | rfl | rfl | rfl | rfl | rfl | rfl | rfl | rfl | rfl | rfl | rfl | rfl <;> rfl) ?k24 ?k25 ?k26 ?_))
          case k24 => have := HLEN.out; unfold maxLen; omega
          case k25 => have := HLEN.out; omega
          case k26 => have := HS45.out; simp; omega
          intro v2 w6 ho2 hg2
          have hal : ∀ r, w5.grownBy (w5.alloc (.cells #[.int .i64 1, .int .i64 0, .int .i64 0, .int .i64 0, .int .i64 0, .int .i64 0, .string ⟨#[]⟩, .int .i64 0, .int .i64 0, .int .i64 0, .int .i64 0, .string ⟨#[]⟩, .slice none 0 0] 60)) r := fun r => World.grownBy_alloc _ _ _
          have hlo : ∀ g, v1.ownBlock = some g → w4.heap.size ≤ g := fun g e => (HO1.out.lt g e).1
          have HQR6 : Hid (∀ q ∈ qs ++ [(Pr.mk 1 0 zeroO zeroO [], Value.slice none 0 0)], PrIn (fun g => (S g ∧ g < w.heap.size) ∨ w.heap.size + 1 < g) w6 k q.2 q.1.args) := fun q hq => by
            rcases List.mem_append.1 hq with h | h
            · exact (((HQR5.out q h).kept (kept_by (hal none) fun g e => by cases e)).kept (kept_by hg2 fun g e hS => by have := hlo g e; have := hS.2; omega)).mono fun g _ hS => hS.1
            · rw [List.mem_singleton] at h; subst h; exact PrIn.nil k none 0
          have HI6 := Lib.hid ((HI5.out.grown (hal none)).own hg2 (fun g e => by have := hlo g e; have := HL4.out; omega) (own_args HI4.out.pin (by_trans (hg45.out) (hal none)) hg2 hlo))
          have ho2' : w6.ownsRow w4.heap.size 60 13 v2 (qs ++ [(Pr.mk 1 0 zeroO zeroO [], Value.slice none 0 0)]).length (cellsR (qs ++ [(Pr.mk 1 0 zeroO zeroO [], Value.slice none 0 0)])) := by rw [cellsR_snoc, List.length_append, HQN.out]; exact ho2
          have HO2 := Lib.hid ho2'
          obtain ⟨xa, xc, rfl⟩ := own_slice ho2
          have HPF : Hid (PrIn (fun g => (S g ∧ g < w.heap.size) ∨ w.heap.size + 1 < g) w6 (k + 1) (.slice xa (N + 1) xc) ((qs ++ [(Pr.mk 1 0 zeroO zeroO [], Value.slice none 0 0)]).map (·.1))) := by
            have h := own_in (S := (fun g => (S g ∧ g < w.heap.size) ∨ w.heap.size + 1 < g)) HO2.out HQR6.out (by simp; have := HQN.out; have := HLEN.out; omega) (fun g hg => .inr (by have := HL4.out; omega))
            exact h
          clear ho2 ho2' hg2 hal hlo l b0 b1 b2 b3 b4 b5 b6 b7 b8 b9 b10 b11 b12 f hf HQR5 HO1 HO2 HQR6
          obtain ⟨⟨l, b0, b1, b2, b3, b4, b5, b6, b7, b8, b9, b10, b11, b12⟩, f⟩ := HI6.out.x
          have hf := f 12
          go_wp2_with fail
          go_meet
          case rel => exact ⟨_, _, _, HI6.out.args _ _ HPF.out⟩
        · subst hx
          clear hxx
          go_wp2_with fail
          go_loopw [7] (fun v wr => ∃ (j : Nat) (pf : Pr) (t : Value) (kf : Nat), v = .int .i64 j ∧ j ≤ 8 ∧ SpInv S w b c wr pf t kf ∧ w.heap.size + 2 ≤ wr.heap.size) (fun v _ => 8 - (intOf v).toNat)
          case atStart => exact ⟨0, _, _, _, rfl, by omega, HI4.out, HL4.out⟩
          case round =>
            clear HI4 HL4
            obtain ⟨j, pf, t, kf, rfl, hj, hir, hlr⟩ := hrel
            obtain ⟨wo, rfl⟩ : ∃ wo : World, wo = wr := ⟨_, rfl⟩
            obtain ⟨qop, qcmp, ⟨qlk, qli, ⟨qlvk, qlvn, qlvt⟩⟩, ⟨qrk, qri, ⟨qrvk, qrvn, qrvt⟩⟩, qargs⟩ := pf
            obtain ⟨qa, qc, rfl, -⟩ := hir.pin.shape
            have HIR : Hid (SpInv S w b c wo (Pr.mk qop qcmp ⟨qlk, qli, ⟨qlvk, qlvn, qlvt⟩⟩ ⟨qrk, qri, ⟨qrvk, qrvn, qrvt⟩⟩ qargs) (.slice qa qargs.length qc) kf) := hir
            have HLR := Lib.hid hlr
            generalize qargs.length = QN at HIR
            obtain ⟨⟨l, b0, b1, b2, b3, b4, b5, b6, b7, b8, b9, b10, b11, b12⟩, f⟩ := HIR.out.x
            simp only [op_mk, cmp_mk, l_mk, r_mk] at b0 b1 b2 b3 b4 b5 b6 b7 b8 b9 b10 b11
            clear hir hlr
            by_cases h8 : j = 8
            · subst h8
              go_wp2_with fail
              go_meet
              case rel => exact ⟨_, _, _, HIR.out⟩
            · have hlt : decide ((j : Int) < 8) = true := by simp; omega
              have hlt' : (j : Int) < 8 := by omega
              have hlt2 : j < 8 := by omega
              have hwk := step_i j (by omega)
              obtain ⟨w5, hw5⟩ : ∃ w5, w5 = wo.alloc (.cells #[.int .i64 qop, .int .i64 qcmp, .int .i64 qlk, .int .i64 qli, .int .i64 qlvk, .int .i64 qlvn, .string qlvt, .int .i64 qrk, .int .i64 qri, .int .i64 qrvk, .int .i64 qrvn, .string qrvt, .slice qa QN qc] 60) := ⟨_, rfl⟩
              have hal : wo.grownBy w5 none := by rw [hw5]; exact World.grownBy_alloc _ _ _
              have HPN : Hid (PrIn (fun g => (S g ∧ g < w.heap.size) ∨ w.heap.size + 1 < g) w5 (kf + 1) (.slice (some ⟨wo.heap.size, 0, none⟩) 1 1) [(Pr.mk qop qcmp ⟨qlk, qli, ⟨qlvk, qlvn, qlvt⟩⟩ ⟨qrk, qri, ⟨qrvk, qrvn, qrvt⟩⟩ qargs)]) := by
                rw [hw5]
                exact one_in' (S := (fun g => (S g ∧ g < w.heap.size) ∨ w.heap.size + 1 < g)) (p := (Pr.mk qop qcmp ⟨qlk, qli, ⟨qlvk, qlvn, qlvt⟩⟩ ⟨qrk, qri, ⟨qrvk, qrvn, qrvt⟩⟩ qargs)) (s := .slice qa QN qc) (T := 60) HIR.out.pin (.inr (by have := HLR.out; omega))
              have HI5 := Lib.hid (HIR.out.grown hal)
              have HL5 : Hid (w.heap.size + 2 ≤ w5.heap.size) := Nat.le_trans HLR.out hal.size
              have HW5 := Lib.hid hw5
              have HIY := Lib.hid (HI5.out.all (.mk 6 0 zeroO zeroO [(Pr.mk qop qcmp ⟨qlk, qli, ⟨qlvk, qlvn, qlvt⟩⟩ ⟨qrk, qri, ⟨qrvk, qrvn, qrvt⟩⟩ qargs)]) (.slice (some ⟨wo.heap.size, 0, none⟩) 1 1) HPN.out)
              clear hw5 hal HIR HLR
              have hf0 := f 0
              have hf1 := f 1
              have hf2 := f 2
              have hf3 := f 3
              have hf4 := f 4
              have hf5 := f 5
              have hf6 := f 6
              have hf7 := f 7
              have hf8 := f 8
              have hf9 := f 9
              have hf10 := f 10
              have hf11 := f 11
              have hf12 := f 12
              have hW5 := HW5.out
              subst hW5
              go_wp2_with fail
              have hz := HIY.out
              simp only [op_mk, cmp_mk, l_mk, r_mk, zeroO, nilV] at hz
              simp (disch := ((try simp); omega)) only [World.setCell_alloc_past] at hz
              have hl5 : w.heap.size + 2 ≤ (wo.alloc (.cells #[.int .i64 qop, .int .i64 qcmp, .int .i64 qlk, .int .i64 qli, .int .i64 qlvk, .int .i64 qlvn, .string qlvt, .int .i64 qrk, .int .i64 qri, .int .i64 qrvk, .int .i64 qrvn, .string qrvt, .slice qa QN qc] 60)).heap.size := HL5.out
              exact ⟨⟨j + 1, _, _, kf + 1, by go_num, by omega, hz, by simpa using hl5⟩, by simp [intOf]; omega⟩
        · subst hx
          clear hxx
          go_wp2_with fail
          go_loopw [8] (fun v wr => ∃ (j : Nat) (ps : List Pr) (sl : Value), v = .int .i64 j ∧ j ≤ 24 ∧ ps.length = N + j ∧ SpInv S w b c wr (.mk op cmp ⟨lk, li, ⟨lvk, lvn, lvt⟩⟩ ⟨rk, ri, ⟨rvk, rvn, rvt⟩⟩ ps) sl (k + 1) ∧ w.heap.size + 2 ≤ wr.heap.size) (fun v _ => 24 - (intOf v).toNat)
          case atStart => exact ⟨0, args, _, rfl, by omega, by rw [HN.out]; rfl, HI4.out, HL4.out⟩
          case round =>
            clear HI4 HL4
            obtain ⟨j, ps, sl, rfl, hj, hln, hir, hlr⟩ := hrel
            obtain ⟨wo, rfl⟩ : ∃ wo : World, wo = wr := ⟨_, rfl⟩
            obtain ⟨qa, qc, rfl, -⟩ := hir.pin.shape
            obtain ⟨qs, hqm, hqn, hq0, hqr, hqc⟩ := hir.pin.parts
            have hln' : (Pr.mk op cmp ⟨lk, li, ⟨lvk, lvn, lvt⟩⟩ ⟨rk, ri, ⟨rvk, rvn, rvt⟩⟩ ps).args.length = N + j := hln
            rw [hln'] at hir hq0
            obtain ⟨M, hM⟩ : ∃ M, N + j = M := ⟨_, rfl⟩
            rw [hM] at hir hq0 hln
            have HM := Lib.hid hM
            have HIR := Lib.hid hir
            have HLR := Lib.hid hlr
            have HQM := Lib.hid hqm
            have HQN : Hid (qs.length = M) := by show _ = _; have h := congrArg List.length hqm; rw [List.length_map] at h; rw [h]; exact hln
            have HQ00 := Lib.hid hq0
            have HQR := Lib.hid hqr
            have HQC := Lib.hid hqc
            obtain ⟨⟨l, b0, b1, b2, b3, b4, b5, b6, b7, b8, b9, b10, b11, b12⟩, f⟩ := HIR.out.x
            simp only [op_mk, cmp_mk, l_mk, r_mk] at b0 b1 b2 b3 b4 b5 b6 b7 b8 b9 b10 b11
            clear hir hlr hqm hqn hq0 hqr hqc hln hln' hM
            by_cases h8 : j = 24
            · subst h8
              go_wp2_with fail
              go_meet
              case rel => exact ⟨_, _, _, HIR.out⟩
            · have hlt : decide ((j : Int) < 24) = true := by simp; omega
              have hlt' : (j : Int) < 24 := by omega
              have hlt2 : j < 24 := by omega
              have hwk := step_i j (by omega)
              have hle : ((M : Int) ≤ (M : Int)) := Int.le_refl _
              have h0M : (0 : Int) ≤ (M : Int) := by omega
              have hMc : M ≤ qc := HIR.out.pin.cap_le
              have hMc' : (M : Int) ≤ (qc : Int) := by omega
              have hf := f 12
              go_wp2_with (at_builtin; go_must (refine wpList_append_grows _ rfl _ _ 50 rfl 60 ii (.agg #[.int .i64 0, .int .i64 0, .int .i64 0, .int .i64 0, .int .i64 0, .int .i64 0, .string ⟨#[]⟩, .int .i64 0, .int .i64 0, .int .i64 0, .int .i64 0, .string ⟨#[]⟩, .slice none 0 0]) 13 136 Tryd.underlying50 HII.out HZ.out HSZ.out HBY.out rfl (by decide) qa M M (cellsR qs) rfl (fun h => (by have := HQ00.out h; omega)) (by rw [cellsR_length, HQN.out]) (fun bb hbb jj u hu => (World.grownBy_alloc wo _ none).cell (HQC.out bb hbb jj u hu) (by simp)) ⟨wo.heap.size, 0, none⟩ 1 1 (cellsO (.mk 2 0 zeroO zeroO []) (.slice none 0 0)) rfl rfl (thirteen_new wo _ _ _ _ _ _ _ _ _ _ _ _ _ _ _ rfl) (by intro u hu; simp [cellsO] at hu; rcases hu with rfl | rfl | rfl | rfl | rfl | rfl | rfl | rfl | rfl | rfl | rfl | rfl | rfl <;> rfl) ?k36 ?k37 ?k38 ?_))
              case k36 => omega
              case k37 => have := HLEN.out; have := HM.out; unfold maxLen; omega
              case k38 => have := HLEN.out; have := HM.out; omega
              intro v1 w5 ho1 hg1
              have hal : wo.grownBy (wo.alloc (.cells #[.int .i64 2, .int .i64 0, .int .i64 0, .int .i64 0, .int .i64 0, .int .i64 0, .string ⟨#[]⟩, .int .i64 0, .int .i64 0, .int .i64 0, .int .i64 0, .string ⟨#[]⟩, .slice none 0 0] 60)) none := World.grownBy_alloc _ _ _
              have hg15 : wo.grownBy w5 none := by_trans hal hg1
              have HI5 := Lib.hid (HIR.out.grown hg15)
              have HL5 : Hid (w.heap.size + 2 ≤ w5.heap.size) := Nat.le_trans HLR.out hg15.size
              have HQR5 : Hid (∀ q ∈ qs ++ [(Pr.mk 2 0 zeroO zeroO [], Value.slice none 0 0)], PrIn (fun g => (S g ∧ g < w.heap.size) ∨ w.heap.size + 1 < g) w5 k q.2 q.1.args) := fun q hq => by
                rcases List.mem_append.1 hq with h | h
                · exact (HQR.out q h).kept (kept_by hg15 fun g e => by cases e)
                · rw [List.mem_singleton] at h; subst h; exact PrIn.nil k none 0
              have ho2 : w5.ownsRow (wo.heap.size + 1) 60 13 v1 (qs ++ [(Pr.mk 2 0 zeroO zeroO [], Value.slice none 0 0)]).length (cellsR (qs ++ [(Pr.mk 2 0 zeroO zeroO [], Value.slice none 0 0)])) := by rw [cellsR_snoc, List.length_append, HQN.out]; exact ho1
              have HO2 := Lib.hid ho2
              obtain ⟨xa, xc, rfl⟩ := own_slice ho1
              have HPF : Hid (PrIn (fun g => (S g ∧ g < w.heap.size) ∨ w.heap.size + 1 < g) w5 (k + 1) (.slice xa (M + 1) xc) ((qs ++ [(Pr.mk 2 0 zeroO zeroO [], Value.slice none 0 0)]).map (·.1))) := by
                have h := own_in (S := (fun g => (S g ∧ g < w.heap.size) ∨ w.heap.size + 1 < g)) HO2.out HQR5.out (by simp; have := HQN.out; have := HLEN.out; have := HM.out; omega) (fun g hg => .inr (by have := HLR.out; omega))
                exact h
              have HIZ := Lib.hid (HI5.out.args ((qs ++ [(Pr.mk 2 0 zeroO zeroO [], Value.slice none 0 0)]).map (·.1)) (.slice xa (M + 1) xc) HPF.out)
              have HLZ : Hid (((qs ++ [(Pr.mk 2 0 zeroO zeroO [], Value.slice none 0 0)]).map (·.1)).length = N + (j + 1)) := by show _ = _; rw [List.length_map, List.length_append, HQN.out]; have := HM.out; simp; omega
              clear ho1 ho2 hg1 hal hg15 l b0 b1 b2 b3 b4 b5 b6 b7 b8 b9 b10 b11 b12 f hf HQR5 HO2
              obtain ⟨⟨l, b0, b1, b2, b3, b4, b5, b6, b7, b8, b9, b10, b11, b12⟩, f⟩ := HI5.out.x
              simp only [op_mk, cmp_mk, l_mk, r_mk] at b0 b1 b2 b3 b4 b5 b6 b7 b8 b9 b10 b11
              have hf := f 12
              go_wp2_with fail
              exact ⟨⟨j + 1, _, _, by go_num, by omega, HLZ.out, HIZ.out, by have := HL5.out; simpa using this⟩, by simp [intOf]; omega⟩
      case rest =>
        obtain ⟨pf, t, kf, hif⟩ := hcut
        obtain ⟨wf, rfl⟩ : ∃ wf : World, wf = wc := ⟨_, rfl⟩
        obtain ⟨fop, fcmp, ⟨flk, fli, ⟨flvk, flvn, flvt⟩⟩, ⟨frk, fri, ⟨frvk, frvn, frvt⟩⟩, fargs⟩ := pf
        obtain ⟨fa, fc, rfl, -⟩ := hif.pin.shape
        have HIF : Hid (SpInv S w b c wf (.mk fop fcmp ⟨flk, fli, ⟨flvk, flvn, flvt⟩⟩ ⟨frk, fri, ⟨frvk, frvn, frvt⟩⟩ fargs) (.slice fa fargs.length fc) kf) := hif
        generalize fargs.length = FN at HIF
        obtain ⟨⟨bl, b0, b1, b2, b3, b4, b5, b6, b7, b8, b9, b10, b11, b12⟩, bf⟩ := HIF.out.x
        obtain ⟨⟨l, c0, c1, c2, c3, c4, c5, c6, c7, c8, c9, c10, c11, c12⟩, f⟩ := HIF.out.z
        clear hif
        simp only [op_mk, cmp_mk, l_mk, r_mk, zeroO, nilV] at c0 c1 c2 c3 c4 c5 c6 c7 c8 c9 c10 c11 b0 b1 b2 b3 b4 b5 b6 b7 b8 b9 b10 b11
        go_wp2
        exact bodyPost_ret (v := (Pr.mk fop fcmp ⟨flk, fli, ⟨flvk, flvn, flvt⟩⟩ ⟨frk, fri, ⟨frvk, frvn, frvt⟩⟩ fargs).val (.slice fa FN fc)) (by simp [results, Tryd.results23, go_sem, Pr.val, op_mk, cmp_mk, l_mk, r_mk, zeroO, nilV, c0, c1, c2, c3, c4, c5, c6, c7, c8, c9, c10, c11, c12, l]; try rfl) rfl
          (have h := sp_fin HIF.out.h0 HIF.out.ca HIF.out.gb HIF.out.pin _ _ _ _ _ _ _ _ _ _ _ _ _
          ⟨.mk fop fcmp ⟨flk, fli, ⟨flvk, flvn, flvt⟩⟩ ⟨frk, fri, ⟨frvk, frvn, frvt⟩⟩ fargs, (.slice fa FN fc), kf, rfl, h.1, h.2.1, h.2.2⟩)
    · have HN0 : Hid (0 < N) := HQ0.out rfl
      clear HQ0
      obtain ⟨⟨l, b0, b1, b2, b3, b4, b5, b6, b7, b8, b9, b10, b11, b12⟩, f⟩ := HIQ.out.x
      have HX4 : Hid (PBx (wq.alloc (.cells #[.int .i64 op, .int .i64 cmp, .int .i64 lk, .int .i64 li, .int .i64 lvk, .int .i64 lvn, .string lvt, .int .i64 rk, .int .i64 ri, .int .i64 rvk, .int .i64 rvn, .string rvt, .slice sa N sc] 60)) wq.heap.size (.mk op cmp ⟨lk, li, ⟨lvk, lvn, lvt⟩⟩ ⟨rk, ri, ⟨rvk, rvn, rvt⟩⟩ args) (.slice sa N sc)) := by
        have h := PBx.new wq (.mk op cmp ⟨lk, li, ⟨lvk, lvn, lvt⟩⟩ ⟨rk, ri, ⟨rvk, rvn, rvt⟩⟩ args) (.slice sa N sc) 60
        exact h
      have hal4 : wq.grownBy (wq.alloc (.cells #[.int .i64 op, .int .i64 cmp, .int .i64 lk, .int .i64 li, .int .i64 lvk, .int .i64 lvn, .string lvt, .int .i64 rk, .int .i64 ri, .int .i64 rvk, .int .i64 rvn, .string rvt, .slice sa N sc] 60)) none := World.grownBy_alloc _ _ _
      have HI4 := Lib.hid (HIQ.out.grown hal4)
      have HSZ4 : Hid ((wq.alloc (.cells #[.int .i64 op, .int .i64 cmp, .int .i64 lk, .int .i64 li, .int .i64 lvk, .int .i64 lvn, .string lvt, .int .i64 rk, .int .i64 ri, .int .i64 rvk, .int .i64 rvn, .string rvt, .slice sa N sc] 60)).heap.size = wq.heap.size + 1) := by show _ = _; simp
      obtain ⟨qs, hqm, hqn, hq0, hqr, hqc⟩ := HIQ.out.pin.parts
      have HQM : Hid (qs.map (·.1) = args) := hqm
      have HQN : Hid (qs.length = N) := by show _ = _; rw [hqn, ← hqm, List.length_map]
      have HQ00 := Lib.hid hq0
      have HQR := Lib.hid hqr
      have HQC := Lib.hid hqc
      clear hqm hqn hq0 hqr hqc
      have HQR4 : Hid (∀ q ∈ qs, PrIn (fun g => (fun g => (S g ∧ g < w.heap.size) ∨ w.heap.size + 1 < g) g ∧ g < wq.heap.size) (wq.alloc (.cells #[.int .i64 op, .int .i64 cmp, .int .i64 lk, .int .i64 li, .int .i64 lvk, .int .i64 lvn, .string lvt, .int .i64 rk, .int .i64 ri, .int .i64 rvk, .int .i64 rvn, .string rvt, .slice sa N sc] 60)) k q.2 q.1.args) := fun q hq => ((HQR.out q hq).mono fun g hlt hS => ⟨hS, hlt⟩).kept (kept_by hal4 fun g e => by cases e)
      clear hal4 HQR
      go_wp2_with (at_builtin; go_must (refine wpList_append_all rfl _ _ 50 rfl (wq.heap.size + 1) 60 ii (.agg #[.int .i64 0, .int .i64 0, .int .i64 0, .int .i64 0, .int .i64 0, .int .i64 0, .string ⟨#[]⟩, .int .i64 0, .int .i64 0, .int .i64 0, .int .i64 0, .string ⟨#[]⟩, .slice none 0 0]) 13 136 Tryd.underlying50 HII.out HZ.out HSZ.out HBY.out rfl (by decide) _ 0 [] rfl (World.ownsRow_nil _ _ _ _) sa N sc (cellsR qs) rfl ?k40 ?k41 ?k42 ?k43 ?k44 ?k45 ?k46 ?_))
      case k40 => exact HQ00.out
      case k41 => rw [cellsR_length, HQN.out]
      case k42 => exact fun bb hbb jj u hu => (World.grownBy_alloc wq _ none).cell (HQC.out bb hbb jj u hu) (by simp)
      case k43 => exact fun u hu => cellsR_one qs u hu fun q hq => (HQR4.out q hq).oneCell
      case k44 => have := HLEN.out; unfold maxLen; omega
      case k45 => have := HLEN.out; omega
      intro v1 w5 ho1 hg1
      have hg1' : (wq.alloc (.cells #[.int .i64 op, .int .i64 cmp, .int .i64 lk, .int .i64 li, .int .i64 lvk, .int .i64 lvn, .string lvt, .int .i64 rk, .int .i64 ri, .int .i64 rvk, .int .i64 rvn, .string rvt, .slice sa N sc] 60)).grownBy w5 none := hg1
      have ho1' : w5.ownsRow (wq.heap.size + 1) 60 13 v1 N (cellsR qs) := by simpa using ho1
      obtain ⟨gb, gcap, rfl, hgb1, hgb2⟩ := World.ownsRow.form ho1' HN0.out
      have HGB : Hid (wq.heap.size + 1 ≤ gb) := hgb1
      have HO5 := Lib.hid ho1'
      have HI5 := Lib.hid (HI4.out.grown hg1')
      have HX5 := Lib.hid (HX4.out.by_ hg1' (by simp))
      have HQR5 : Hid (∀ q ∈ qs, PrIn (fun g => (fun g => (S g ∧ g < w.heap.size) ∨ w.heap.size + 1 < g) g ∧ g < wq.heap.size) w5 k q.2 q.1.args) := fun q hq => (HQR4.out q hq).kept (kept_by hg1' fun g e => by cases e)
      have HS5 : Hid (gb < w5.heap.size) := hgb2
      clear ho1 hg1 hg1' ho1' hgb1 hgb2 l b0 b1 b2 b3 b4 b5 b6 b7 b8 b9 b10 b11 b12 f HX4 HI4 HQC HQR4 HSZ4 HIQ
      generalize hg3 : wq.heap.size = g3 at HX5 HGB HO5 HQR5 HLQ ⊢
      have HG3 : Hid (w.heap.size + 1 < g3) := by have := HLQ.out; show _ < _; omega
      obtain ⟨w6, hw6⟩ : ∃ w6, w6 = w5.setCell ⟨g3, 12, none⟩ (.slice (some ⟨gb, 0, none⟩) N gcap) := ⟨_, rfl⟩
      have hby6 : w5.grownBy w6 (some g3) := by rw [hw6]; exact by_store
      have HX6 : Hid (PBx w6 g3 (.mk op cmp ⟨lk, li, ⟨lvk, lvn, lvt⟩⟩ ⟨rk, ri, ⟨rvk, rvn, rvt⟩⟩ args) (.slice (some ⟨gb, 0, none⟩) N gcap)) := by rw [hw6]; exact HX5.out.args _
      have HC6 : Hid (CaseAt w6 b c) := HI5.out.h0.kept HI5.out.ca hby6 (fun g e => by cases e; have := HG3.out; omega)
      have HY6 : Hid (w.grownBy w6 (some b)) := by_own HI5.out.gb hby6 (fun g e => by cases e; have := HG3.out; omega)
      have HZ6 := Lib.hid (HI5.out.z.by_ hby6 (by have := HG3.out; simp; omega))
      have HO6 : Hid (w6.ownsRow (g3 + 1) 60 13 (.slice (some ⟨gb, 0, none⟩) N gcap) N (cellsR qs)) := World.ownsRow.kept HO5.out hby6 (own_far HO5.out (Nat.lt_succ_self g3))
      have HBG : Hid (b < w.heap.size) := HI5.out.h0.lt
      have HQR6 : Hid (∀ q ∈ qs, PrIn (fun g => (fun g => (S g ∧ g < w.heap.size) ∨ w.heap.size + 1 < g) g ∧ g < g3) w6 k q.2 q.1.args) := fun q hq => (HQR5.out q hq).kept (kept_by hby6 fun g e hS => by cases e; have := hS.2; omega)
      have HI := Lib.hid (int_calls b c (N : Int) (by have := HN0.out; omega) (by have := HLEN.out; omega) w6 HC6.out)
      have HC0 : Hid (CaseAt w b c) := HI5.out.h0
      have HNSB : Hid (¬ S b) := HI5.out.ns
      have hf12 := HX5.out.f 12
      have h512 := HX5.out.b.c12
      have hl5 := HX5.out.b.l
      have HW6 := Lib.hid hw6
      clear hby6 hw6 hg3 HQR5 HO5 HI5
      go_wp2_with fail
      rw [← HW6.out]
      clear hf12 h512 hl5 HX5 HW6
      refine HI.out.mono ?_
      rintro e w7 ⟨y, rfl, hy0, hy1, hc7, hby7⟩
      obtain ⟨j, rfl⟩ : ∃ j : Nat, y = j := ⟨y.toNat, by omega⟩
      have hj : j < N := by omega
      have hj0 : (0 : Int) ≤ (j : Int) := by omega
      have hj1 : (j : Int) < (N : Int) := by omega
      have hdw : w7.grownBy w7.drew none := ⟨rfl, rfl, rfl, Nat.le_refl _, fun _ _ _ => rfl⟩
      have HC7 : Hid (CaseAt w7.drew b c) := hc7.grown hdw
      have hby67 := by_trans hby7 (by_some hdw (some b))
      have HY7 : Hid (w.grownBy w7.drew (some b)) := by_trans HY6.out hby67
      have HX7 := Lib.hid (HX6.out.by_ hby67 (by have := HG3.out; have := HBG.out; simp; omega))
      have HZ7 := Lib.hid (HZ6.out.by_ hby67 (by have := HBG.out; simp; omega))
      have HO7 : Hid (w7.drew.ownsRow (g3 + 1) 60 13 (.slice (some ⟨gb, 0, none⟩) N gcap) N (cellsR qs)) := World.ownsRow.kept HO6.out hby67 (own_far HO6.out (by have := HG3.out; have := HBG.out; omega))
      have HNF : Hid (¬ (fun g => (fun g => (S g ∧ g < w.heap.size) ∨ w.heap.size + 1 < g) g ∧ g < g3) b) := by
        show ¬ _
        rintro ⟨⟨h1, -⟩ | h1, h2⟩
        · exact HNSB.out h1
        · have := HBG.out; omega
      have HQR7 : Hid (∀ q ∈ qs, PrIn (fun g => (fun g => (S g ∧ g < w.heap.size) ∨ w.heap.size + 1 < g) g ∧ g < g3) w7.drew k q.2 q.1.args) := fun q hq => (HQR6.out q hq).kept (kept_by hby67 fun g e => by cases e; exact HNF.out)
      have HS7 : Hid (gb < w7.drew.heap.size) := (HO7.out.lt gb rfl).2
      clear hy0 hy1 hc7 hby7 hdw hby67 HI HQR6 HO6 HX6 HZ6 HC6 HY6
      have hjq : j < qs.length := by rw [HQN.out]; exact hj
      obtain ⟨⟨x, sx⟩, hxs⟩ : ∃ q, qs[j]? = some q := ⟨_, List.getElem?_eq_getElem hjq⟩
      have hmem : (x, sx) ∈ qs := List.mem_of_getElem? hxs
      have hat := own_at HO7.out HQN.out.symm hxs
      have hrx := HQR7.out _ hmem
      have hxm : x ∈ args := by rw [← HQM.out]; exact List.mem_map.2 ⟨_, hmem, rfl⟩
      have HJQ := Lib.hid hjq
      have hcx : countP x ≤ 1000 := by
        have h2 := mem_countL hxm
        have h3 := HCNT.out
        omega
      obtain ⟨xa, xc, he, -⟩ := hrx.shape
      simp only at he
      subst he
      have hcl := HIH.out _ hxm (fun g => (fun g => (S g ∧ g < w.heap.size) ∨ w.heap.size + 1 < g) g ∧ g < g3) (.slice xa x.args.length xc) w7.drew HNF.out hcx HC7.out hrx
      have HXS := Lib.hid hxs
      have HCL : Hid (Calls Tryd.prog 23 #[.pointer (some ⟨b, 0, none⟩), x.val (.slice xa x.args.length xc)] w7.drew (GotSpoil (fun g => (fun g => (S g ∧ g < w.heap.size) ∨ w.heap.size + 1 < g) g ∧ g < g3) b c w7.drew)) := hcl
      replace hat : PrAt w7.drew gb (j * 13) x (.slice xa x.args.length xc) := hat
      have HAT := Lib.hid hat
      clear hat hxs hcl hrx hcx hxm hmem hjq HNF
      obtain ⟨xop, xcmp, ⟨xlk, xli, ⟨xlvk, xlvn, xlvt⟩⟩, ⟨xrk, xri, ⟨xrvk, xrvn, xrvt⟩⟩, xargs⟩ := x
      replace HCL : Hid (Calls Tryd.prog 23 #[.pointer (some ⟨b, 0, none⟩), .agg #[.int .i64 xop, .int .i64 xcmp, .int .i64 xlk, .int .i64 xli, .int .i64 xlvk, .int .i64 xlvn, .string xlvt, .int .i64 xrk, .int .i64 xri, .int .i64 xrvk, .int .i64 xrvn, .string xrvt, .slice xa xargs.length xc]] w7.drew (GotSpoil (fun g => (fun g => (S g ∧ g < w.heap.size) ∨ w.heap.size + 1 < g) g ∧ g < g3) b c w7.drew)) := HCL.out
      replace HAT : Hid (PrAt w7.drew gb (j * 13) (Pr.mk xop xcmp ⟨xlk, xli, ⟨xlvk, xlvn, xlvt⟩⟩ ⟨xrk, xri, ⟨xrvk, xrvn, xrvt⟩⟩ xargs) (.slice xa xargs.length xc)) := HAT.out
      replace HXS : Hid (qs[j]? = some ((Pr.mk xop xcmp ⟨xlk, xli, ⟨xlvk, xlvn, xlvt⟩⟩ ⟨xrk, xri, ⟨xrvk, xrvn, xrvt⟩⟩ xargs), .slice xa xargs.length xc)) := HXS.out
      generalize xargs.length = XN at HCL HAT HXS
      obtain ⟨e0, e1, e2, e3, e4, e5, e6, e7, e8, e9, e10, e11, e12⟩ := HAT.out
      simp only [op_mk, cmp_mk, l_mk, r_mk] at e0 e1 e2 e3 e4 e5 e6 e7 e8 e9 e10 e11 e12
      have h712 := HX7.out.b.c12
      have hl7 := HX7.out.b.l
      clear HAT
      go_wp2_with fail
      refine wp_region_noPanic ?_
      refine wp_region_X (fun w' => w'.cell? ⟨g3, 12, none⟩ = some (.slice (some ⟨gb, 0, none⟩) N gcap) ∧ w'.cell? ⟨gb, j * 13, none⟩ = some (.int .i64 xop) ∧ w'.cell? ⟨gb, j * 13 + 1, none⟩ = some (.int .i64 xcmp) ∧ w'.cell? ⟨gb, j * 13 + 2, none⟩ = some (.int .i64 xlk) ∧ w'.cell? ⟨gb, j * 13 + 3, none⟩ = some (.int .i64 xli) ∧ w'.cell? ⟨gb, j * 13 + 4, none⟩ = some (.int .i64 xlvk) ∧ w'.cell? ⟨gb, j * 13 + 5, none⟩ = some (.int .i64 xlvn) ∧ w'.cell? ⟨gb, j * 13 + 6, none⟩ = some (.string xlvt) ∧ w'.cell? ⟨gb, j * 13 + 7, none⟩ = some (.int .i64 xrk) ∧ w'.cell? ⟨gb, j * 13 + 8, none⟩ = some (.int .i64 xri) ∧ w'.cell? ⟨gb, j * 13 + 9, none⟩ = some (.int .i64 xrvk) ∧ w'.cell? ⟨gb, j * 13 + 10, none⟩ = some (.int .i64 xrvn) ∧ w'.cell? ⟨gb, j * 13 + 11, none⟩ = some (.string xrvt) ∧ w'.cell? ⟨gb, j * 13 + 12, none⟩ = some (.slice xa XN xc)) 11 (by kernel_rfl) ?_ (fun hHeld => ?_)
      · (try dsimp only); go_keep
      try simp only [Act.put, List.setIfInBounds_toArray, List.set_cons_zero, List.set_cons_succ]
      refine wpX_take 0 (v := ?_) rfl (by kernel_rfl) (by kernel_rfl) (by kernel_rfl) (by kernel_rfl) (by kernel_rfl) (fun _ _ _ h => h) (Or.inl ⟨by rfl, ?_⟩) (by assumption) ?_
      rotate_left
      · intro w hSw; (try dsimp only at hSw); go_simp; try with_reducible rfl
      try simp only [Act.put, List.setIfInBounds_toArray, List.set_cons_zero, List.set_cons_succ]
      refine wpX_take 1 (v := ?_) rfl (by kernel_rfl) (by kernel_rfl) (by kernel_rfl) (by kernel_rfl) (by kernel_rfl) (fun _ _ _ h => h) (Or.inl ⟨by rfl, ?_⟩) (by assumption) ?_
      rotate_left
      · intro w hSw; (try dsimp only at hSw); go_simp; try with_reducible rfl
      try simp only [Act.put, List.setIfInBounds_toArray, List.set_cons_zero, List.set_cons_succ]
      refine wpX_take 2 (v := ?_) rfl (by kernel_rfl) (by kernel_rfl) (by kernel_rfl) (by kernel_rfl) (by kernel_rfl) (fun _ _ _ h => h) (Or.inl ⟨by rfl, ?_⟩) (by assumption) ?_
      rotate_left
      · intro w hSw; (try dsimp only at hSw); go_simp; try with_reducible rfl
      try simp only [Act.put, List.setIfInBounds_toArray, List.set_cons_zero, List.set_cons_succ]
      refine wpX_take 3 (v := ?_) rfl (by kernel_rfl) (by kernel_rfl) (by kernel_rfl) (by kernel_rfl) (by kernel_rfl) (fun _ _ _ h => h) (Or.inl ⟨by rfl, ?_⟩) (by assumption) ?_
      rotate_left
      · intro w hSw; (try dsimp only at hSw); go_simp; try with_reducible rfl
      try simp only [Act.put, List.setIfInBounds_toArray, List.set_cons_zero, List.set_cons_succ]
      refine wpX_take 4 (v := ?_) rfl (by kernel_rfl) (by kernel_rfl) (by kernel_rfl) (by kernel_rfl) (by kernel_rfl) (fun _ _ _ h => h) (Or.inl ⟨by rfl, ?_⟩) (by assumption) ?_
      rotate_left
      · intro w hSw; (try dsimp only at hSw); go_simp; try with_reducible rfl
      try simp only [Act.put, List.setIfInBounds_toArray, List.set_cons_zero, List.set_cons_succ]
      refine wpX_take 5 (v := ?_) rfl (by kernel_rfl) (by kernel_rfl) (by kernel_rfl) (by kernel_rfl) (by kernel_rfl) (fun _ _ _ h => h) (Or.inl ⟨by rfl, ?_⟩) (by assumption) ?_
      rotate_left
      · intro w hSw; (try dsimp only at hSw); go_simp; try with_reducible rfl
      try simp only [Act.put, List.setIfInBounds_toArray, List.set_cons_zero, List.set_cons_succ]
      refine wpX_take 6 (v := ?_) rfl (by kernel_rfl) (by kernel_rfl) (by kernel_rfl) (by kernel_rfl) (by kernel_rfl) (fun _ _ _ h => h) (Or.inl ⟨by rfl, ?_⟩) (by assumption) ?_
      rotate_left
      · intro w hSw; (try dsimp only at hSw); go_simp; try with_reducible rfl
      try simp only [Act.put, List.setIfInBounds_toArray, List.set_cons_zero, List.set_cons_succ]
      refine wpX_take 7 (v := ?_) rfl (by kernel_rfl) (by kernel_rfl) (by kernel_rfl) (by kernel_rfl) (by kernel_rfl) (fun _ _ _ h => h) (Or.inl ⟨by rfl, ?_⟩) (by assumption) ?_
      rotate_left
      · intro w hSw; (try dsimp only at hSw); go_simp; try with_reducible rfl
      try simp only [Act.put, List.setIfInBounds_toArray, List.set_cons_zero, List.set_cons_succ]
      refine wpX_take 8 (v := ?_) rfl (by kernel_rfl) (by kernel_rfl) (by kernel_rfl) (by kernel_rfl) (by kernel_rfl) (fun _ _ _ h => h) (Or.inl ⟨by rfl, ?_⟩) (by assumption) ?_
      rotate_left
      · intro w hSw; (try dsimp only at hSw); go_simp; try with_reducible rfl
      try simp only [Act.put, List.setIfInBounds_toArray, List.set_cons_zero, List.set_cons_succ]
      refine wpX_one 9 (by kernel_rfl) rfl (fun K hK => ?_)
      go_simp
      go_at_call 23
      refine HCL.out.mono ?_
      rintro e w8 ⟨q, t, k', rfl, hpq, hc8, hby8⟩
      have HC8 := Lib.hid hc8
      have HY8 := Lib.hid (by_trans HY7.out hby8)
      have HX8 := Lib.hid (HX7.out.by_ hby8 (by have := HG3.out; have := HBG.out; simp; omega))
      have HZ8 := Lib.hid (HZ7.out.by_ hby8 (by have := HBG.out; simp; omega))
      have ho8 : w8.ownsRow (g3 + 1) 60 13 (.slice (some ⟨gb, 0, none⟩) N gcap) N (cellsR qs) := World.ownsRow.kept HO7.out hby8 (own_far HO7.out (by have := HG3.out; have := HBG.out; omega))
      have HO8 := Lib.hid ho8
      have HQR8 : Hid (∀ q ∈ qs, PrIn (fun g => (fun g => (S g ∧ g < w.heap.size) ∨ w.heap.size + 1 < g) g ∧ g < g3) w8 k q.2 q.1.args) := fun q hq => (HQR7.out q hq).kept (kept_by hby8 fun g e => by
        cases e
        rintro ⟨⟨h1, -⟩ | h1, h2⟩
        · exact HNSB.out h1
        · have := HBG.out; omega)
      obtain ⟨ta, tc, rfl, htl⟩ := hpq.shape
      have HPQ := Lib.hid hpq
      have hat8 := own_at ho8 HQN.out.symm HXS.out
      obtain ⟨d0, d1, d2, d3, d4, d5, d6, d7, d8, d9, d10, d11, d12⟩ := hat8
      simp only [op_mk, cmp_mk, l_mk, r_mk] at d0 d1 d2 d3 d4 d5 d6 d7 d8 d9 d10 d11 d12
      have z12 := HX8.out.b.c12
      have hl8 := HX8.out.b.l
      have hgb8 : gb < w8.heap.size := (ho8.lt gb rfl).2
      have hfz0 := ho8.frozenAt (j * 13)
      have hfz1 := ho8.frozenAt (j * 13 + 1)
      have hfz2 := ho8.frozenAt (j * 13 + 2)
      have hfz3 := ho8.frozenAt (j * 13 + 3)
      have hfz4 := ho8.frozenAt (j * 13 + 4)
      have hfz5 := ho8.frozenAt (j * 13 + 5)
      have hfz6 := ho8.frozenAt (j * 13 + 6)
      have hfz7 := ho8.frozenAt (j * 13 + 7)
      have hfz8 := ho8.frozenAt (j * 13 + 8)
      have hfz9 := ho8.frozenAt (j * 13 + 9)
      have hfz10 := ho8.frozenAt (j * 13 + 10)
      have hfz11 := ho8.frozenAt (j * 13 + 11)
      have hfz12 := ho8.frozenAt (j * 13 + 12)
      clear hpq hc8 hby8 ho8 HCL h712 hl7 e0 e1 e2 e3 e4 e5 e6 e7 e8 e9 e10 e11 e12
      refine hK.out _ _ ?_ (fun hHeld => ?_)
      · (try dsimp only); go_keep
      clear hK K
      try simp only [Act.put, List.setIfInBounds_toArray, List.set_cons_zero, List.set_cons_succ]
      try simp only [Act.put, List.setIfInBounds_toArray, List.set_cons_zero, List.set_cons_succ]
      refine wpX_take 10 (v := ?_) rfl (by kernel_rfl) (by kernel_rfl) (by kernel_rfl) (by kernel_rfl) (by kernel_rfl) (fun _ _ _ h => h) (Or.inl ⟨by rfl, ?_⟩) (by assumption) ?_
      rotate_left
      · intro w hSw; (try dsimp only at hSw); go_simp; try with_reducible rfl
      try simp only [Act.put, List.setIfInBounds_toArray, List.set_cons_zero, List.set_cons_succ]
      refine wpX_last 11 (by kernel_rfl) rfl rfl (by kernel_rfl) (fun K hK => ?_)
      go_simp
      refine hK.out _ _ ?_
      clear hK K
      refine NoPanic.normal ?_
      have hput := own_put HO8.out HQN.out.symm HJQ.out q (.slice ta q.args.length tc)
      clear d0 d1 d2 d3 d4 d5 d6 d7 d8 d9 d10 d11 d12 hfz0 hfz1 hfz2 hfz3 hfz4 hfz5 hfz6 hfz7 hfz8 hfz9 hfz10 hfz11 hfz12 hHeld z12 hl8 hgb8
      generalize hw9 : (((((((((((((w8.setCell ⟨gb, j * 13, none⟩ (.int .i64 q.op)).setCell ⟨gb, j * 13 + 1, none⟩ (.int .i64 q.cmp)).setCell ⟨gb, j * 13 + 2, none⟩ (.int .i64 q.l.k)).setCell ⟨gb, j * 13 + 3, none⟩ (.int .i64 q.l.i)).setCell ⟨gb, j * 13 + 4, none⟩ (.int .i64 q.l.v.k)).setCell ⟨gb, j * 13 + 5, none⟩ (.int .i64 q.l.v.n)).setCell ⟨gb, j * 13 + 6, none⟩ (.string q.l.v.t)).setCell ⟨gb, j * 13 + 7, none⟩ (.int .i64 q.r.k)).setCell ⟨gb, j * 13 + 8, none⟩ (.int .i64 q.r.i)).setCell ⟨gb, j * 13 + 9, none⟩ (.int .i64 q.r.v.k)).setCell ⟨gb, j * 13 + 10, none⟩ (.int .i64 q.r.v.n)).setCell ⟨gb, j * 13 + 11, none⟩ (.string q.r.v.t)).setCell ⟨gb, j * 13 + 12, none⟩ (.slice ta q.args.length tc)) = w9 at hput ⊢
      obtain ⟨ho9, hby9⟩ := hput
      have HGBx : Hid (g3 + 1 ≤ gb) := HGB.out
      have HK9 : Hid (∀ x ∈ qs.set j (q, .slice ta q.args.length tc), PrIn (fun g => (S g ∧ g < w.heap.size) ∨ w.heap.size + 1 < g) w9 (max k k') x.2 x.1.args) := fun x hx => by
        rcases List.mem_or_eq_of_mem_set hx with h | h
        · exact (((HQR8.out x h).kept (kept_by hby9 fun g e hS => by cases e; have := hS.2; have := HGBx.out; omega)).mono fun g _ hS => hS.1).deep (Nat.le_max_left _ _)
        · subst h
          exact ((HPQ.out.kept (kept_by hby9 fun g e hS => by
            cases e
            rcases hS with h | h
            · have := h.2; have := HGBx.out; omega
            · have := HS7.out; omega)).mono fun g _ hS => hS.elim (fun h => h.1) (fun h => .inr (by have := HS7.out; have := HGBx.out; have := HG3.out; omega))).deep (Nat.le_max_right _ _)
      have HPN : Hid (PrIn (fun g => (S g ∧ g < w.heap.size) ∨ w.heap.size + 1 < g) w9 (max k k' + 1) (.slice (some ⟨gb, 0, none⟩) N gcap) ((qs.set j (q, .slice ta q.args.length tc)).map (·.1))) :=
        own_in (S := (fun g => (S g ∧ g < w.heap.size) ∨ w.heap.size + 1 < g)) (by rw [List.length_set, HQN.out]; exact ho9) HK9.out (by rw [List.length_set, HQN.out]; have := HLEN.out; omega) (fun g hg => .inr (by have := HG3.out; omega))
      have HLNN : Hid (((qs.set j (q, .slice ta q.args.length tc)).map (·.1)).length = N) := by show _ = _; rw [List.length_map, List.length_set, HQN.out]
      have HC9 : Hid (CaseAt w9 b c) := HC0.out.kept HC8.out hby9 (fun g e => by cases e; have := HGBx.out; have := HG3.out; omega)
      have HY9 : Hid (w.grownBy w9 (some b)) := by_own HY8.out hby9 (fun g e => by cases e; have := HGBx.out; have := HG3.out; omega)
      have HX9 := Lib.hid (HX8.out.by_ hby9 (by have := HGBx.out; simp; omega))
      have HZ9 := Lib.hid (HZ8.out.by_ hby9 (by have := HGBx.out; have := HG3.out; simp; omega))
      clear ho9 hby9 hw9 HK9
      generalize (qs.set j (q, .slice ta q.args.length tc)).map (·.1) = nargs at HPN HLNN
      obtain ⟨⟨bl, b0, b1, b2, b3, b4, b5, b6, b7, b8, b9, b10, b11, b12⟩, bf⟩ := HX9.out
      obtain ⟨⟨l, c0, c1, c2, c3, c4, c5, c6, c7, c8, c9, c10, c11, c12⟩, f⟩ := HZ9.out
      simp only [op_mk, cmp_mk, l_mk, r_mk, zeroO, nilV] at c0 c1 c2 c3 c4 c5 c6 c7 c8 c9 c10 c11 b0 b1 b2 b3 b4 b5 b6 b7 b8 b9 b10 b11
      go_wp2
      exact bodyPost_ret (v := (Pr.mk op cmp ⟨lk, li, ⟨lvk, lvn, lvt⟩⟩ ⟨rk, ri, ⟨rvk, rvn, rvt⟩⟩ nargs).val (.slice (some ⟨gb, 0, none⟩) N gcap)) (by simp [results, Tryd.results23, go_sem, Pr.val, op_mk, cmp_mk, l_mk, r_mk, zeroO, nilV, c0, c1, c2, c3, c4, c5, c6, c7, c8, c9, c10, c11, c12, l]; try rfl) rfl
        (have h := sp_fin HC0.out HC9.out HY9.out HPN.out _ _ _ _ _ _ _ _ _ _ _ _ _
        ⟨.mk op cmp ⟨lk, li, ⟨lvk, lvn, lvt⟩⟩ ⟨rk, ri, ⟨rvk, rvn, rvt⟩⟩ nargs, (.slice (some ⟨gb, 0, none⟩) N gcap), _, rfl, h.1, h.2.1, h.2.2⟩)
theorem spoil_all (b : Nat) (c : CaseId) : ∀ (k : Nat) (p : Pr), SpoilAt b c k p
  | 0, p => fun S s w h1 h2 h3 h4 => spoil_step b c 0 p (fun q hq => by rw [h4.1] at hq; simp at hq) S s w h1 h2 h3 h4.deeper
  | k + 1, p => spoil_step b c k p fun q _ => spoil_all b c k q
end Go.Proofs.YtpmlhgakbpfgmaaDoor
