/- The contract of the case's SpoilSchema. -/
import Derived.Test.YtpmlhgakbpfgmaaDoorZw
import Derived.Test.YtpmlhgakbpfgmaaDoorQw
import Derived.Deep.RegionHeld3
import Derived.Deep.CutRange
import Derived.Deep.CutBlock
import Derived.Deep.OwnRows
import Derived.Laws.Runes
import Derived.ArgAppend
set_option linter.unusedSimpArgs false
set_option linter.unusedVariables false
namespace Go.Proofs.YtpmlhgakbpfgmaaDoor
open Go.RowKit

set_option maxRecDepth 100000
/-- What SpoilSchema answers. -/
def GotSpoil7 (b : Nat) (c : CaseId) (w : World) (e : Ending) (w' : World) : Prop :=
  ∃ (ver : Int) (v : Value) (ts : List Tab), e = .returned (.agg #[.int .i64 ver, v]) ∧ TabsAt false 0 (fun g => b < g) (fun g => b < g) w' v ts ∧ CaseAt w' b c ∧ w.grownBy w' (some b)
/-- The copied tables, while they are spoilt. -/
structure SQ (full : Bool) (b : Nat) (c : CaseId) (w wr : World) (gt n cap : Nat) (ver : Int) (xs : List Value) (L : List Tab) : Prop where
  hb : b < w.heap.size
  x3 : SBoxF wr w.heap.size ver (some ⟨gt, 0, none⟩) n cap
  x4 : SBoxF wr (w.heap.size + 1) 0 none 0 0
  o : wr.ownsRow (w.heap.size + 2) 52 5 (.slice (some ⟨gt, 0, none⟩) n cap) n xs
  x : TabsX full 3 (fun g => b < g ∧ g ≠ w.heap.size ∧ g ≠ w.heap.size + 1 ∧ g ≠ gt) wr xs L
  len : L.length = n
  c : CaseAt wr b c
  g : w.grownBy wr (some b)
theorem SQ.gt {full : Bool} {b : Nat} {c : CaseId} {w wr : World} {gt n cap : Nat} {ver : Int} {xs : List Value} {L : List Tab} (h : SQ full b c w wr gt n cap ver xs L) : w.heap.size + 2 ≤ gt ∧ gt < wr.heap.size := h.o.lt gt rfl
theorem SQ.case {full : Bool} {b : Nat} {c : CaseId} {w wr wr' : World} {gt n cap : Nat} {ver : Int} {xs : List Value} {L : List Tab} (h : SQ full b c w wr gt n cap ver xs L) (hc : CaseAt wr' b c) (hg : wr.grownBy wr' (some b)) : SQ full b c w wr' gt n cap ver xs L :=
  have hb := h.hb
  have hgt := h.gt
  ⟨h.hb, h.x3.by_ hg (by simp; omega), h.x4.by_ hg (by simp; omega), h.o.kept hg (.inr (by simp [Value.ownBlock]; omega)), h.x.kept (kept_by hg fun g e hS => by cases e; omega), h.len, hc, by_trans h.g hg⟩
theorem SQ.later {full : Bool} {b : Nat} {c : CaseId} {w wr wr' : World} {gt n cap : Nat} {ver : Int} {xs : List Value} {L : List Tab} (h : SQ full b c w wr gt n cap ver xs L) (hg : Below wr.heap.size wr wr') : SQ full b c w wr' gt n cap ver xs L :=
  have hg' : ∀ r, wr.grownBy wr' r := fun r => ⟨hg.os, hg.tape, hg.output, hg.size, fun k hk _ => hg.block k hk⟩
  h.case (h.c.grown (hg' none)) (hg' _)
theorem infoCol7 : (Tryd.prog.info? 46).map (fun i => (i.zero, i.size, i.bytes)) = some (some (.agg #[.string ⟨#[]⟩, .int .i64 0]), 2, 24) := by kernel_rfl
theorem info_parts2 {t : TypeId} {z : Value} (h : (Tryd.prog.info? t).map (fun i => (i.zero, i.size, i.bytes)) = some (some z, 2, 24)) : ∃ i, Tryd.prog.info? t = some i ∧ i.zero = some z ∧ i.size = 2 ∧ i.bytes = 24 := by
  obtain ⟨i, h1, h2⟩ := Option.map_eq_some_iff.1 h
  simp only [Prod.mk.injEq] at h2
  exact ⟨i, h1, h2.1, h2.2.1, h2.2.2⟩
def flatC : List Col → List Value
  | [] => []
  | x :: r => .string x.n :: .int .i64 x.k :: flatC r
theorem flatC_length : ∀ l : List Col, (flatC l).length = l.length * 2
  | [] => rfl
  | x :: r => by simp only [flatC, List.length_cons, flatC_length r]; omega
theorem flatC_one : ∀ (l : List Col), ∀ v ∈ flatC l, v.oneCell' = true
  | [], v, h => by simp [flatC] at h
  | x :: r, v, h => by
    simp only [flatC, List.mem_cons] at h
    rcases h with rfl | rfl | h
    · rfl
    · rfl
    · exact flatC_one r v h
theorem flatC_at : ∀ (l : List Col) (i : Nat) (h : i < l.length), (flatC l)[i * 2]? = some (.string l[i].n) ∧ (flatC l)[i * 2 + 1]? = some (.int .i64 l[i].k)
  | x :: r, 0, _ => ⟨rfl, rfl⟩
  | x :: r, i + 1, h => by
    have ih := flatC_at r i (by simpa using h)
    rw [show (i + 1) * 2 = i * 2 + 1 + 1 by omega, show i * 2 + 1 + 1 + 1 = (i * 2 + 1) + 1 + 1 by omega]
    simpa [flatC] using ih
theorem flatC_append : ∀ (l m : List Col), flatC (l ++ m) = flatC l ++ flatC m
  | [], _ => rfl
  | x :: r, m => by simp [flatC, flatC_append r m]
theorem flatC_cells {w : World} {b off : Nat} (l : List Col) (h : ∀ i (h : i < l.length), ColAt w b (off + i * 2) l[i]) (j : Nat) (v : Value) (hj : (flatC l)[j]? = some v) : w.cell? ⟨b, off + j, none⟩ = some v := by
  have hjl : j < l.length * 2 := by have := (List.getElem?_eq_some_iff.1 hj).1; rw [flatC_length] at this; exact this
  have h1 := h (j / 2) (by omega)
  have h2 := flatC_at l (j / 2) (by omega)
  rcases (by omega : j = j / 2 * 2 ∨ j = j / 2 * 2 + 1) with e | e
  · have hq := h2.1; rw [← e, hj] at hq; cases hq; have := h1.n; rw [← e] at this; exact this
  · have hq := h2.2; rw [← e, hj] at hq; cases hq; have := h1.k; rw [Nat.add_assoc, ← e] at this; exact this
theorem cols_own {base : Nat} {w : World} {v : Value} {l : List Col} (ho : w.ownsRow base 46 2 v l.length (flatC l)) (hl : l.length ≤ 17592186044416) : ColsAt (fun g => base ≤ g) w v l := by
  have ho' := ho
  obtain ⟨hx, hv | ⟨g, cap, cur, hv, hg, hh, hcap, hm, hs, ht⟩⟩ := ho
  · obtain ⟨rfl, hn⟩ := hv
    obtain rfl : l = [] := List.eq_nil_of_length_eq_zero hn
    exact ColsAt.nil _ _
  · subst hv
    refine ⟨some ⟨g, 0, none⟩, cap, rfl, hl, hcap, .inr ⟨g, 0, rfl, (Array.getElem?_eq_some_iff.1 hh).1, hg, fun i hi => ⟨?_, ?_⟩⟩⟩
    · rw [Nat.zero_add, ho'.cellAt _ (by omega)]; exact (flatC_at l i hi).1
    · rw [Nat.zero_add, ho'.cellAt _ (by omega)]; exact (flatC_at l i hi).2
theorem SQ.part {full : Bool} {b : Nat} {c : CaseId} {w wr : World} {gt n cap : Nat} {ver : Int} {xs : List Value} {L : List Tab} (h : SQ full b c w wr gt n cap ver xs L) : SQ false b c w wr gt n cap ver xs L :=
  ⟨h.hb, h.x3, h.x4, h.o, h.x.part, h.len, h.c, h.g⟩
/-- One cell of one table is stored anew. -/
theorem SQ.cell {full : Bool} {b : Nat} {c : CaseId} {w wr : World} {gt n cap : Nat} {ver : Int} {xs : List Value} {L : List Tab} (h0 : CaseAt w b c) (h : SQ full b c w wr gt n cap ver xs L) {i q : Nat} (hi : i < n) (hq : q < 5) (v : Value) (t : Tab) {ca : Option Addr} {cc : Nat} {ra : Option Addr} {rn rc : Nat} {ka : Option Addr} {kn kc : Nat}
    (hx : TabX (xs.set (i * 5 + q) v) i t ca cc ra rn rc ka kn kc) (hv : TabV full 3 (fun g => b < g ∧ g ≠ w.heap.size ∧ g ≠ w.heap.size + 1 ∧ g ≠ gt) wr t ca cc ra rn rc ka kn kc) :
    SQ full b c w (wr.setCell ⟨gt, i * 5 + q, none⟩ v) gt n cap ver (xs.set (i * 5 + q) v) (L.set i t) := by
  have hb := h.hb
  have hgt := h.gt
  have hs := h.o.stored (i * 5 + q) v
  have hby : wr.grownBy (wr.setCell ⟨gt, i * 5 + q, none⟩ v) (some gt) := by_store
  have hk : Kept (fun g => b < g ∧ g ≠ w.heap.size ∧ g ≠ w.heap.size + 1 ∧ g ≠ gt) wr (wr.setCell ⟨gt, i * 5 + q, none⟩ v) := kept_by hby fun g e hS => by cases e; omega
  refine ⟨hb, h.x3.by_ hby (by simp; omega), h.x4.by_ hby (by simp; omega), hs.1, ?_, by rw [List.length_set]; exact h.len, h0.stored h.c (by omega) _, by_store_new h.g (by omega) _⟩
  exact (h.x.kept hk).put (by rw [h.len]; exact hi) t (by simp) (fun j hj => by rw [List.getElem?_set_ne (by omega)]) hx (hv.kept hk)
theorem TabX.at_ {xs : List Value} {i : Nat} {t : Tab} {ca : Option Addr} {cc : Nat} {ra : Option Addr} {rn rc : Nat} {ka : Option Addr} {kn kc : Nat} (h : TabX xs i t ca cc ra rn rc ka kn kc) : i * 5 + 4 < xs.length := (List.getElem?_eq_some_iff.1 h.checks).1
theorem SQ.set_key {b : Nat} {c : CaseId} {w wr : World} {gt n cap : Nat} {ver : Int} {xs : List Value} {L : List Tab} (h0 : CaseAt w b c) (h : SQ true b c w wr gt n cap ver xs L) {i : Nat} (hi : i < n) (x : Int) :
    ∃ L', SQ false b c w (wr.setCell ⟨gt, i * 5 + 2, none⟩ (.int .i64 x)) gt n cap ver (xs.set (i * 5 + 2) (.int .i64 x)) L' := by
  have hiL : i < L.length := by rw [h.len]; exact hi
  obtain ⟨ca, cc, ra, rn, rc, ka, kn, kc, tx, tv⟩ := h.x.2 i hiL
  have hl := tx.at_
  refine ⟨_, SQ.cell h0 h.part hi (by omega : 2 < 5) (.int .i64 x) { L[i] with key := x } (ca := ca) (cc := cc) (ra := ra) (rn := rn) (rc := rc) (ka := ka) (kn := kn) (kc := kc) ⟨?_, ?_, ?_, ?_, ?_⟩ ⟨tv.cols, (fun e => by cases e), (fun e => by cases e)⟩⟩
  · rw [List.getElem?_set_ne (by omega)]; exact tx.name
  · rw [List.getElem?_set_ne (by omega)]; exact tx.cols
  · rw [List.getElem?_set_self (by omega)]
  · rw [List.getElem?_set_ne (by omega)]; exact tx.refs
  · rw [List.getElem?_set_ne (by omega)]; exact tx.checks
theorem SQ.set_name {b : Nat} {c : CaseId} {w wr : World} {gt n cap : Nat} {ver : Int} {xs : List Value} {L : List Tab} (h0 : CaseAt w b c) (h : SQ true b c w wr gt n cap ver xs L) {i : Nat} (hi : i < n) (x : ByteArray) :
    ∃ L', SQ false b c w (wr.setCell ⟨gt, i * 5, none⟩ (.string x)) gt n cap ver (xs.set (i * 5) (.string x)) L' := by
  have hiL : i < L.length := by rw [h.len]; exact hi
  obtain ⟨ca, cc, ra, rn, rc, ka, kn, kc, tx, tv⟩ := h.x.2 i hiL
  have hl := tx.at_
  refine ⟨_, SQ.cell (q := 0) h0 h.part hi (by omega) (.string x) { L[i] with name := x } (ca := ca) (cc := cc) (ra := ra) (rn := rn) (rc := rc) (ka := ka) (kn := kn) (kc := kc) ⟨?_, ?_, ?_, ?_, ?_⟩ ⟨tv.cols, (fun e => by cases e), (fun e => by cases e)⟩⟩
  · rw [Nat.add_zero, List.getElem?_set_self (by omega)]
  · rw [List.getElem?_set_ne (by omega)]; exact tx.cols
  · rw [List.getElem?_set_ne (by omega)]; exact tx.key
  · rw [List.getElem?_set_ne (by omega)]; exact tx.refs
  · rw [List.getElem?_set_ne (by omega)]; exact tx.checks
theorem SQ.set_cols {b : Nat} {c : CaseId} {w wr : World} {gt n cap : Nat} {ver : Int} {xs : List Value} {L : List Tab} (h0 : CaseAt w b c) (h : SQ true b c w wr gt n cap ver xs L) {i : Nat} (hi : i < n) (cs : List Col) {ca : Option Addr} {cc : Nat} {v : Value} (hv : v = .slice ca cs.length cc)
    (hcs : ColsAt (fun g => b < g ∧ g ≠ w.heap.size ∧ g ≠ w.heap.size + 1 ∧ g ≠ gt) wr (.slice ca cs.length cc) cs) :
    ∃ L', SQ false b c w (wr.setCell ⟨gt, i * 5 + 1, none⟩ v) gt n cap ver (xs.set (i * 5 + 1) v) L' := by
  subst hv
  have hiL : i < L.length := by rw [h.len]; exact hi
  obtain ⟨ca', cc', ra, rn, rc, ka, kn, kc, tx, tv⟩ := h.x.2 i hiL
  have hl := tx.at_
  refine ⟨_, SQ.cell h0 h.part hi (by omega : 1 < 5) _ { L[i] with cols := cs } (ca := ca) (cc := cc) (ra := ra) (rn := rn) (rc := rc) (ka := ka) (kn := kn) (kc := kc) ⟨?_, ?_, ?_, ?_, ?_⟩ ⟨hcs, (fun e => by cases e), (fun e => by cases e)⟩⟩
  · rw [List.getElem?_set_ne (by omega)]; exact tx.name
  · rw [List.getElem?_set_self (by omega)]
  · rw [List.getElem?_set_ne (by omega)]; exact tx.key
  · rw [List.getElem?_set_ne (by omega)]; exact tx.refs
  · rw [List.getElem?_set_ne (by omega)]; exact tx.checks
theorem SQ.set_refs {b : Nat} {c : CaseId} {w wr : World} {gt n cap : Nat} {ver : Int} {xs : List Value} {L : List Tab} (h0 : CaseAt w b c) (h : SQ true b c w wr gt n cap ver xs L) {i : Nat} (hi : i < n) (a : Option Addr) (m k : Nat) :
    ∃ L', SQ false b c w (wr.setCell ⟨gt, i * 5 + 3, none⟩ (.slice a m k)) gt n cap ver (xs.set (i * 5 + 3) (.slice a m k)) L' := by
  have hiL : i < L.length := by rw [h.len]; exact hi
  obtain ⟨ca, cc, ra, rn, rc, ka, kn, kc, tx, tv⟩ := h.x.2 i hiL
  have hl := tx.at_
  refine ⟨_, SQ.cell h0 h.part hi (by omega : 3 < 5) _ L[i] (ca := ca) (cc := cc) (ra := a) (rn := m) (rc := k) (ka := ka) (kn := kn) (kc := kc) ⟨?_, ?_, ?_, ?_, ?_⟩ ⟨tv.cols, (fun e => by cases e), (fun e => by cases e)⟩⟩
  · rw [List.getElem?_set_ne (by omega)]; exact tx.name
  · rw [List.getElem?_set_ne (by omega)]; exact tx.cols
  · rw [List.getElem?_set_ne (by omega)]; exact tx.key
  · rw [List.getElem?_set_self (by omega)]
  · rw [List.getElem?_set_ne (by omega)]; exact tx.checks
theorem SQ.set_checks {b : Nat} {c : CaseId} {w wr : World} {gt n cap : Nat} {ver : Int} {xs : List Value} {L : List Tab} (h0 : CaseAt w b c) (h : SQ true b c w wr gt n cap ver xs L) {i : Nat} (hi : i < n) (a : Option Addr) (m k : Nat) :
    ∃ L', SQ false b c w (wr.setCell ⟨gt, i * 5 + 4, none⟩ (.slice a m k)) gt n cap ver (xs.set (i * 5 + 4) (.slice a m k)) L' := by
  have hiL : i < L.length := by rw [h.len]; exact hi
  obtain ⟨ca, cc, ra, rn, rc, ka, kn, kc, tx, tv⟩ := h.x.2 i hiL
  have hl := tx.at_
  refine ⟨_, SQ.cell h0 h.part hi (by omega : 4 < 5) _ L[i] (ca := ca) (cc := cc) (ra := ra) (rn := rn) (rc := rc) (ka := a) (kn := m) (kc := k) ⟨?_, ?_, ?_, ?_, ?_⟩ ⟨tv.cols, (fun e => by cases e), (fun e => by cases e)⟩⟩
  · rw [List.getElem?_set_ne (by omega)]; exact tx.name
  · rw [List.getElem?_set_ne (by omega)]; exact tx.cols
  · rw [List.getElem?_set_ne (by omega)]; exact tx.key
  · rw [List.getElem?_set_ne (by omega)]; exact tx.refs
  · rw [List.getElem?_set_self (by omega)]
theorem infoRef7 : (Tryd.prog.info? 54).map (fun i => (i.zero, i.size, i.bytes)) = some (some (.agg #[.slice none 0 0, .int .i64 0]), 2, 32) := by kernel_rfl
theorem info_parts_ref : ∃ i, Tryd.prog.info? 54 = some i ∧ i.zero = some (.agg #[.slice none 0 0, .int .i64 0]) ∧ i.size = 2 ∧ i.bytes = 32 := by
  obtain ⟨i, h1, h2⟩ := Option.map_eq_some_iff.1 infoRef7
  simp only [Prod.mk.injEq] at h2
  exact ⟨i, h1, h2.1, h2.2.1, h2.2.2⟩
theorem run_make5 (w : World) : ∃ w', (Instr.makeSlice 49 (.int .i64 5) (.int .i64 5)).run Tryd.prog w = .ok (.slice (some ⟨w.heap.size, 0, none⟩) 5 5) w' ∧ Below w.heap.size w w' := by
  obtain ⟨i, hi, h2⟩ := Option.map_eq_some_iff.1 infoRef7
  simp only [Prod.mk.injEq] at h2
  obtain ⟨hz, hs, hb⟩ := h2
  have hr := run_make (P := Tryd.prog) w 49 54 i _ Tryd.underlying49 hi hz .i64 .i64 5 5 (by omega) (Int.le_refl _) (by rw [hb]; decide) (by omega)
  exact ⟨_, hr, (Below.refl _ _).alloc (Nat.le_refl _) _⟩
theorem wpList_make5 {w : World} {ops : Array Oper} {rest : List Oper} {o : Oper} {a : Act} {Q : Exit → Act → World → Prop} (hgd : o.guard = none) (l c : Operand) (ho : o.op = .makeSlice 49 l c) (hl : a.eval l = .int .i64 5) (hc : a.eval c = .int .i64 5)
    (h : ∀ w', Below w.heap.size w w' → wpList Tryd.prog ops Q rest (a.put o.dst (.slice (some ⟨w.heap.size, 0, none⟩) 5 5)) w') : wpList Tryd.prog ops Q (o :: rest) a w := by
  refine wpList_plain hgd fun K hK => ?_
  obtain ⟨w', hrun, hb⟩ := run_make5 w
  unfold Oper.wp
  simp [execOp, ho, hl, hc, hrun, Result.andThen]
  exact hK _ _ (h w' hb)
theorem run_append_none7 {w : World} (base : Nat) (t ty e : TypeId) (i : TypeInfo) (size : Nat) (c : Nat) (ht : Tryd.prog.underlying t = some (.slice e)) (hi : Tryd.prog.info? e = some i)
    (v : Value) (n : Nat) (xs : List Value) (hown : w.ownsRow base e size v n xs) :
    (Builtin.append_ #[t, t] ty #[v, .slice none 0 c]).run Tryd.prog w = .ok v w := by
  rcases hown.2 with ⟨rfl, rfl⟩ | ⟨g, cap, cur, rfl, _, _, hnc, _⟩
  · simp [Builtin.append_, run_underlying ht, sizeOf, typeInfo, hi, Builtin.lenOf, Builtin.firstCells]
  · simp [Builtin.append_, run_underlying ht, sizeOf, typeInfo, hi, Builtin.lenOf, Builtin.firstCells, hnc, storeCells]
theorem wpList_append_any7 {w : World} {ops : Array Oper} {rest : List Oper} {o : Oper} {a : Act} {Q : Exit → Act → World → Prop} (hgd : o.guard = none) (s x : Operand) (t : TypeId)
    (ho : o.op = .call { callee := .builtin .append, args := #[s, x], argTypes := #[t, t] })
    (base : Nat) (e : TypeId) (i : TypeInfo) (z : Value) (size bytes : Nat) (ht : Tryd.prog.underlying t = some (.slice e)) (hi : Tryd.prog.info? e = some i) (hz : i.zero = some z)
    (hsize : i.size = size) (hby : i.bytes = bytes) (hzs : z.cells.size = size) (hsz : 0 < size)
    (v : Value) (n : Nat) (xs : List Value) (hs : a.eval s = v) (hown : w.ownsRow base e size v n xs)
    (ad : Option Addr) (m c : Nat) (news : List Value) (hx : a.eval x = .slice ad m c) (hnone : ad = none → m = 0) (hl : news.length = m * size) (hnews : ∀ b, ad = some b → ∀ j u, news[j]? = some u → w.cell? (b.add j) = some u) (h1 : ∀ u ∈ news, u.oneCell' = true)
    (h63 : n + m ≤ maxLen) (hbytes : (n + m) * bytes ≤ 140737488355328) (hbase : base ≤ w.heap.size)
    (h : ∀ v' w', w'.ownsRow base e size v' (n + m) (xs ++ news) → w.grownBy w' v.ownBlock → wpList Tryd.prog ops Q rest (a.put o.dst v') w') : wpList Tryd.prog ops Q (o :: rest) a w := by
  cases ad with
  | none =>
    obtain rfl := hnone rfl
    obtain rfl : news = [] := List.eq_nil_of_length_eq_zero (by omega)
    refine wpList_plain hgd fun K hK => ?_
    have hrun := run_append_none7 (w := w) base t o.type e i size c ht hi v n xs hown
    unfold Oper.wp
    simp [execOp, ho, resolve, invoke, builtin, hs, hx, hrun, Result.andThen]
    exact hK _ _ (h v w (by simpa using hown) ⟨rfl, rfl, rfl, Nat.le_refl _, fun _ _ _ => rfl⟩)
  | some b => exact wpList_append_own _ hgd s x t ho base e i z size bytes ht hi hz hsize hby hzs hsz v n xs hs hown b m c news hx hl (hnews b rfl) h1 h63 hbytes hbase fun v' w' h2 h3 _ => h v' w' h2 h3

theorem cell_two_new7 (w : World) (x y : Value) (t : TypeId) : ∀ j u, [x, y][j]? = some u → (w.alloc (.cells #[x, y] t)).cell? ((⟨w.heap.size, 0, none⟩ : Addr).add j) = some u := by
  intro j u hj
  rcases j with _ | _ | j
  · simp at hj; subst hj; show (w.alloc _).cell? ⟨w.heap.size, 0 + 0, none⟩ = _; go_simp
  · simp at hj; subst hj; show (w.alloc _).cell? ⟨w.heap.size, 0 + 1, none⟩ = _; go_simp
  · simp at hj
theorem addr_add7 (b off j : Nat) : (⟨b, off, none⟩ : Addr).add j = ⟨b, off + j, none⟩ := by unfold Addr.add; split <;> simp_all
theorem raw_news {w : World} {b off : Nat} (m : Nat) (h : ∀ j, j < m → ∃ u, w.cell? ⟨b, off + j, none⟩ = some u ∧ u.oneCell' = true) : ∃ news : List Value, news.length = m ∧ (∀ j u, news[j]? = some u → w.cell? ((⟨b, off, none⟩ : Addr).add j) = some u) ∧ ∀ u ∈ news, u.oneCell' = true := by
  have hat : ∀ j, j < m → ∃ u, ((List.range m).map fun j => (w.cell? ⟨b, off + j, none⟩).getD .nilIface)[j]? = some u ∧ w.cell? ⟨b, off + j, none⟩ = some u ∧ u.oneCell' = true := fun j hj => by
    obtain ⟨u, hu, h1⟩ := h j hj
    exact ⟨u, by rw [List.getElem?_map, List.getElem?_range hj]; simp [hu], hu, h1⟩
  refine ⟨(List.range m).map fun j => (w.cell? ⟨b, off + j, none⟩).getD .nilIface, by simp, fun j u hj => ?_, fun u hu => ?_⟩
  · have hjm : j < m := by have := (List.getElem?_eq_some_iff.1 hj).1; simpa using this
    obtain ⟨x, h1, h2, -⟩ := hat j hjm
    rw [hj] at h1; cases h1
    rw [addr_add7]; exact h2
  · obtain ⟨j, hj, e⟩ := List.getElem_of_mem hu
    obtain ⟨x, h1, -, h3⟩ := hat j (by simpa using hj)
    rw [List.getElem?_eq_getElem hj, e] at h1; cases h1; exact h3
theorem refs_news {S : Nat → Prop} {w : World} {a : Option Addr} {n cap : Nat} {l : List Rfc} (h : RefsAt S w (.slice a n cap) l) : ∃ news : List Value, news.length = n * 2 ∧ (∀ b, a = some b → ∀ j u, news[j]? = some u → w.cell? (b.add j) = some u) ∧ (∀ u ∈ news, u.oneCell' = true) ∧ (a = none → n = 0) ∧ n = l.length := by
  obtain ⟨a', c', hv, -, h3⟩ := h
  simp only [Value.slice.injEq] at hv
  obtain ⟨rfl, rfl, rfl⟩ := hv
  rcases h3 with rfl | ⟨b, off, rfl, -, -, k4⟩
  · exact ⟨[], rfl, fun b _ j u hj => by simp at hj, fun u hu => by simp at hu, fun _ => rfl, rfl⟩
  · obtain ⟨news, h1, h2, h3⟩ := raw_news (w := w) (b := b) (off := off) (l.length * 2) (fun j hj => by
      obtain ⟨ia, ic, c0, c1, -⟩ := k4 (j / 2) (by omega)
      rcases (by omega : j = j / 2 * 2 ∨ j = j / 2 * 2 + 1) with e | e
      · exact ⟨_, by rw [e]; exact c0, rfl⟩
      · exact ⟨_, by rw [e, ← Nat.add_assoc]; exact c1, rfl⟩)
    exact ⟨news, h1, fun b' hb' => by cases hb'; exact h2, h3, (fun e => by cases e), rfl⟩
theorem infoPr7 : (Tryd.prog.info? 60).map (fun i => (i.zero, i.size, i.bytes)) = some (some (.agg #[.int .i64 0, .int .i64 0, .int .i64 0, .int .i64 0, .int .i64 0, .int .i64 0, .string ⟨#[]⟩, .int .i64 0, .int .i64 0, .int .i64 0, .int .i64 0, .string ⟨#[]⟩, .slice none 0 0]), 13, 136) := by kernel_rfl
theorem info_parts_pr : ∃ i, Tryd.prog.info? 60 = some i ∧ i.zero = some (.agg #[.int .i64 0, .int .i64 0, .int .i64 0, .int .i64 0, .int .i64 0, .int .i64 0, .string ⟨#[]⟩, .int .i64 0, .int .i64 0, .int .i64 0, .int .i64 0, .string ⟨#[]⟩, .slice none 0 0]) ∧ i.size = 13 ∧ i.bytes = 136 := by
  obtain ⟨i, h1, h2⟩ := Option.map_eq_some_iff.1 infoPr7
  simp only [Prod.mk.injEq] at h2
  exact ⟨i, h1, h2.1, h2.2.1, h2.2.2⟩
theorem checks_news {S : Nat → Prop} {w : World} {k : Nat} {a : Option Addr} {n cap : Nat} {l : List Pr} (h : PrIn S w (k + 1) (.slice a n cap) l) : ∃ news : List Value, news.length = n * 13 ∧ (∀ b, a = some b → ∀ j u, news[j]? = some u → w.cell? (b.add j) = some u) ∧ (∀ u ∈ news, u.oneCell' = true) ∧ (a = none → n = 0) ∧ n = l.length := by
  have h0 := h
  obtain ⟨a', c', hv, -, h3⟩ := h
  simp only [Value.slice.injEq] at hv
  obtain ⟨rfl, rfl, rfl⟩ := hv
  rcases h3 with rfl | ⟨b, off, rfl, -, -, k4⟩
  · exact ⟨[], rfl, fun b _ j u hj => by simp at hj, fun u hu => by simp at hu, fun _ => rfl, rfl⟩
  · obtain ⟨news, h1, h2, h3⟩ := raw_news (w := w) (b := b) (off := off) (l.length * 13) (fun j hj => by
      obtain ⟨s, ⟨c0, c1, c2, c3, c4, c5, c6, c7, c8, c9, c10, c11, c12⟩, hs⟩ := k4 (j / 13) (by omega)
      obtain ⟨sa, sc, rfl, -⟩ := hs.shape
      rcases (by omega : j = j / 13 * 13 ∨ j = j / 13 * 13 + 1 ∨ j = j / 13 * 13 + 2 ∨ j = j / 13 * 13 + 3 ∨ j = j / 13 * 13 + 4 ∨ j = j / 13 * 13 + 5 ∨ j = j / 13 * 13 + 6 ∨ j = j / 13 * 13 + 7 ∨ j = j / 13 * 13 + 8 ∨ j = j / 13 * 13 + 9 ∨ j = j / 13 * 13 + 10 ∨ j = j / 13 * 13 + 11 ∨ j = j / 13 * 13 + 12) with e | e | e | e | e | e | e | e | e | e | e | e | e
      · exact ⟨_, by rw [e]; exact c0, rfl⟩
      · exact ⟨_, by rw [e, ← Nat.add_assoc]; exact c1, rfl⟩
      · exact ⟨_, by rw [e, ← Nat.add_assoc]; exact c2, rfl⟩
      · exact ⟨_, by rw [e, ← Nat.add_assoc]; exact c3, rfl⟩
      · exact ⟨_, by rw [e, ← Nat.add_assoc]; exact c4, rfl⟩
      · exact ⟨_, by rw [e, ← Nat.add_assoc]; exact c5, rfl⟩
      · exact ⟨_, by rw [e, ← Nat.add_assoc]; exact c6, rfl⟩
      · exact ⟨_, by rw [e, ← Nat.add_assoc]; exact c7, rfl⟩
      · exact ⟨_, by rw [e, ← Nat.add_assoc]; exact c8, rfl⟩
      · exact ⟨_, by rw [e, ← Nat.add_assoc]; exact c9, rfl⟩
      · exact ⟨_, by rw [e, ← Nat.add_assoc]; exact c10, rfl⟩
      · exact ⟨_, by rw [e, ← Nat.add_assoc]; exact c11, rfl⟩
      · exact ⟨_, by rw [e, ← Nat.add_assoc]; exact c12, rfl⟩)
    exact ⟨news, h1, fun b' hb' => by cases hb'; exact h2, h3, (fun e => by cases e), rfl⟩
theorem cell_pr_new7 (w : World) (p : Pr) (s : Value) : ∀ j u, [Value.int .i64 p.op, .int .i64 p.cmp, .int .i64 p.l.k, .int .i64 p.l.i, .int .i64 p.l.v.k, .int .i64 p.l.v.n, .string p.l.v.t, .int .i64 p.r.k, .int .i64 p.r.i, .int .i64 p.r.v.k, .int .i64 p.r.v.n, .string p.r.v.t, s][j]? = some u → (w.alloc (pBlock p s 60)).cell? ((⟨w.heap.size, 0, none⟩ : Addr).add j) = some u := by
  obtain ⟨l, c0, c1, c2, c3, c4, c5, c6, c7, c8, c9, c10, c11, c12⟩ := PBox.new w p s 60
  intro j u hj
  rw [addr_add7, Nat.zero_add]
  rcases j with _ | _ | _ | _ | _ | _ | _ | _ | _ | _ | _ | _ | _ | j
  · cases hj; exact c0
  · cases hj; exact c1
  · cases hj; exact c2
  · cases hj; exact c3
  · cases hj; exact c4
  · cases hj; exact c5
  · cases hj; exact c6
  · cases hj; exact c7
  · cases hj; exact c8
  · cases hj; exact c9
  · cases hj; exact c10
  · cases hj; exact c11
  · cases hj; exact c12
  · simp at hj
theorem flatC_setk : ∀ (l : List Col) (j : Nat) (x : Int), j < l.length → (flatC l).set (j * 2 + 1) (.int .i64 x) = flatC (l.set j ⟨(l.getD j ⟨⟨#[]⟩, 0⟩).n, x⟩)
  | [], _, _, h => by simp at h
  | y :: r, 0, x, _ => by rfl
  | y :: r, j + 1, x, h => by
    have ih := flatC_setk r j x (by simpa using h)
    rw [show (j + 1) * 2 + 1 = (j * 2 + 1) + 1 + 1 by omega]
    simp only [flatC, List.set_cons_succ, ih, List.getD_cons_succ]
theorem flatC_setn : ∀ (l : List Col) (j : Nat) (x : ByteArray), j < l.length → (flatC l).set (j * 2) (.string x) = flatC (l.set j ⟨x, (l.getD j ⟨⟨#[]⟩, 0⟩).k⟩)
  | [], _, _, h => by simp at h
  | y :: r, 0, x, _ => by rfl
  | y :: r, j + 1, x, h => by
    have ih := flatC_setn r j x (by simpa using h)
    rw [show (j + 1) * 2 = (j * 2) + 1 + 1 by omega]
    simp only [flatC, List.set_cons_succ, ih, List.getD_cons_succ]
/-- A cell of the changed table's columns is stored anew. -/
theorem SQ.col {b : Nat} {c : CaseId} {w wr : World} {gt n cap : Nat} {ver : Int} {xs N1 : List Value} {L : List Tab} (h0 : CaseAt w b c) (h : SQ true b c w wr gt n cap ver xs L) (hX : TabsX true 3 (fun g => b < g ∧ g < w.heap.size) wr N1 L) {i : Nat} (hi : i < n)
    (hxs : ∀ j, j / 5 ≠ i → xs[j]? = N1[j]?) (hxl : xs.length = N1.length) {base gc m cg : Nat} (hbase : w.heap.size + 2 ≤ base) (hne : gt < base) {cs cs' : List Col} (ho : wr.ownsRow base 46 2 (.slice (some ⟨gc, 0, none⟩) m cg) m (flatC cs))
    {t : Tab} {ra : Option Addr} {rn rc : Nat} {ka : Option Addr} {kn kc : Nat} (tx : TabX xs i t (some ⟨gc, 0, none⟩) cg ra rn rc ka kn kc) (ht : t.cols.length = m) (hm : m ≤ 4) {o : Nat} {v : Value} (hcs : (flatC cs).set o v = flatC cs') (hl : cs'.length = m) :
    ∃ L', SQ false b c w (wr.setCell ⟨gc, o, none⟩ v) gt n cap ver xs L' := by
  have hb := h.hb
  have hgt := h.gt
  have hgc := ho.lt gc rfl
  have hs := ho.stored o v
  have hby : wr.grownBy (wr.setCell ⟨gc, o, none⟩ v) (some gc) := by_store
  have hC : ColsAt (fun g => base ≤ g) (wr.setCell ⟨gc, o, none⟩ v) (.slice (some ⟨gc, 0, none⟩) cs'.length cg) cs' := by
    have h1 := hs.1
    rw [hcs, ← hl] at h1
    exact cols_own h1 (by omega)
  refine ⟨L.set i { t with cols := cs' }, hb, h.x3.by_ hby (by simp; omega), h.x4.by_ hby (by simp; omega), h.o.kept hby (.inr (by simp [Value.ownBlock]; omega)), ?_, by rw [List.length_set]; exact h.len, h0.stored h.c (by omega) _, by_store_new h.g (by omega) _⟩
  have hk : Kept (fun g => b < g ∧ g < w.heap.size) wr (wr.setCell ⟨gc, o, none⟩ v) := kept_by hby fun g e hS => by cases e; omega
  have hx := ((hX.kept hk).part.mono (S' := fun g => b < g ∧ g ≠ w.heap.size ∧ g ≠ w.heap.size + 1 ∧ g ≠ gt) fun g _ hS => ⟨hS.1, by omega, by omega, by omega⟩)
  refine hx.put (by rw [h.len]; exact hi) { t with cols := cs' } (ca := some ⟨gc, 0, none⟩) (cc := cg) (ra := ra) (rn := rn) (rc := rc) (ka := ka) (kn := kn) (kc := kc) hxl hxs ⟨tx.name, ?_, tx.key, tx.refs, tx.checks⟩ ⟨hC.mono fun g _ (hg : base ≤ g) => ⟨by omega, by omega, by omega, by omega⟩, (fun e => by cases e), (fun e => by cases e)⟩
  rw [tx.cols, ht]
  show _ = some (Value.slice _ cs'.length _)
  rw [hl]
/-- What is left to say of the spoilt schema. -/
structure SZ (b : Nat) (c : CaseId) (w wr : World) (v : Value) (ver : Int) (ts : List Tab) : Prop where
  hb : b < w.heap.size
  c0 : wr.cell? ⟨w.heap.size, 0, none⟩ = some (.int .i64 ver)
  c1 : wr.cell? ⟨w.heap.size, 1, none⟩ = some v
  l3 : w.heap.size < wr.heap.size
  x4 : SBoxF wr (w.heap.size + 1) 0 none 0 0
  t : TabsAt false 0 (fun g => b < g ∧ g ≠ w.heap.size + 1) (fun g => b < g ∧ g ≠ w.heap.size + 1) wr v ts
  c : CaseAt wr b c
  g : w.grownBy wr (some b)
theorem SQ.z {full : Bool} {b : Nat} {c : CaseId} {w wr : World} {gt n cap : Nat} {ver : Int} {xs : List Value} {L : List Tab} (h : SQ full b c w wr gt n cap ver xs L) (hn : n ≤ 17592186044416) : SZ b c w wr (.slice (some ⟨gt, 0, none⟩) n cap) ver L := by
  have hb := h.hb
  obtain ⟨⟨l, c0, c1⟩, -⟩ := h.x3
  refine ⟨hb, c0, c1, l, h.x4, ?_, h.c, h.g⟩
  have ho := h.o
  rw [← h.len] at ho
  have ht := tabs_own ho h.x (by rw [h.len]; exact hn)
  rw [h.len] at ht
  obtain ⟨a, cp, hv, h1, h3⟩ := ht.part
  refine ⟨a, cp, hv, h1, h3.imp (fun h => h) fun ⟨b', off, k1, k2, k3, k4⟩ => ⟨b', off, k1, k2, ⟨by omega, by omega⟩, fun i hi => ?_⟩⟩
  obtain ⟨ca, cc, ra, rn, rc, ka, kn, kc, c, v⟩ := k4 i hi
  exact ⟨ca, cc, ra, rn, rc, ka, kn, kc, c, v.cols.mono (fun g _ hS => ⟨hS.1, hS.2.2.1⟩), (fun e => by cases e), (fun e => by cases e)⟩
theorem SZ.fin {b : Nat} {c : CaseId} {w wr : World} {v : Value} {ver : Int} {ts : List Tab} (h0 : CaseAt w b c) (h : SZ b c w wr v ver ts) :
    GotSpoil7 b c w (.returned (.agg #[.int .i64 ver, v])) ((wr.setCell ⟨w.heap.size + 1, 0, none⟩ (.int .i64 ver)).setCell ⟨w.heap.size + 1, 1, none⟩ v) := by
  have hk : wr.grownBy ((wr.setCell ⟨w.heap.size + 1, 0, none⟩ (.int .i64 ver)).setCell ⟨w.heap.size + 1, 1, none⟩ v) (some (w.heap.size + 1)) := by_trans by_store by_store
  refine ⟨ver, v, ts, rfl, ?_, h0.stored (h0.stored h.c (by omega) _) (by omega) _, by_store_new (by_store_new h.g (by omega) _) (by omega) _⟩
  exact (h.t.kept (kept_by hk fun g e hS => by cases e; rcases hS with h | h <;> omega)).mono (fun _ _ h => h.1) (fun _ _ h => h.1)
/-! ### the columns grow -/
/-- The changed table's columns, while they grow. -/
structure SG (b : Nat) (c : CaseId) (w wr : World) (gt n cap : Nat) (ver : Int) (N1 : List Value) (L : List Tab) (i base : Nat) (t : Tab) (ra : Option Addr) (rn rc : Nat) (ka : Option Addr) (kn kc : Nat) (xs : List Value) (cs : List Col) (gc cg : Nat) : Prop where
  hb : b < w.heap.size
  x3 : SBoxF wr w.heap.size ver (some ⟨gt, 0, none⟩) n cap
  x4 : SBoxF wr (w.heap.size + 1) 0 none 0 0
  o : wr.ownsRow (w.heap.size + 2) 52 5 (.slice (some ⟨gt, 0, none⟩) n cap) n xs
  hX : TabsX true 3 (fun g => b < g ∧ g < w.heap.size) wr N1 L
  len : L.length = n
  hi : i < n
  hxs : (∀ j, j / 5 ≠ i → xs[j]? = N1[j]?) ∧ xs.length = N1.length
  tx : TabX xs i { t with cols := cs } (some ⟨gc, 0, none⟩) cg ra rn rc ka kn kc
  oc : wr.ownsRow base 46 2 (.slice (some ⟨gc, 0, none⟩) cs.length cg) cs.length (flatC cs)
  hbase : w.heap.size + 2 ≤ base ∧ gt < base
  c : CaseAt wr b c
  g : w.grownBy wr (some b)
theorem SG.later {b : Nat} {c : CaseId} {w wr wr' : World} {gt n cap : Nat} {ver : Int} {N1 : List Value} {L : List Tab} {i base : Nat} {t : Tab} {ra : Option Addr} {rn rc : Nat} {ka : Option Addr} {kn kc : Nat} {xs : List Value} {cs : List Col} {gc cg : Nat} (h : SG b c w wr gt n cap ver N1 L i base t ra rn rc ka kn kc xs cs gc cg) (hg : Below wr.heap.size wr wr') :
    SG b c w wr' gt n cap ver N1 L i base t ra rn rc ka kn kc xs cs gc cg := by
  have hg' : ∀ r, wr.grownBy wr' r := fun r => ⟨hg.os, hg.tape, hg.output, hg.size, fun k hk _ => hg.block k hk⟩
  exact ⟨h.hb, h.x3.by_ (hg' none) (by simp), h.x4.by_ (hg' none) (by simp), h.o.kept (hg' none) (.inr (by simp [Value.ownBlock])), h.hX.later hg, h.len, h.hi, h.hxs, h.tx, h.oc.kept (hg' none) (.inr (by simp [Value.ownBlock])), h.hbase, h.c.grown (hg' none), by_trans h.g (hg' _)⟩
/-- One column more is appended and the slice stored. -/
theorem SG.more {b : Nat} {c : CaseId} {w wr wr' : World} {gt n cap : Nat} {ver : Int} {N1 : List Value} {L : List Tab} {i base : Nat} {t : Tab} {ra : Option Addr} {rn rc : Nat} {ka : Option Addr} {kn kc : Nat} {xs : List Value} {cs : List Col} {gc cg gc' cg' : Nat} (h0 : CaseAt w b c) (h : SG b c w wr gt n cap ver N1 L i base t ra rn rc ka kn kc xs cs gc cg) (x : Col)
    (hown : wr'.ownsRow base 46 2 (.slice (some ⟨gc', 0, none⟩) (cs.length + 1) cg') (cs.length + 1) (flatC cs ++ [.string x.n, .int .i64 x.k])) (hg : wr.grownBy wr' (some gc)) :
    SG b c w (wr'.setCell ⟨gt, i * 5 + 1, none⟩ (.slice (some ⟨gc', 0, none⟩) (cs.length + 1) cg')) gt n cap ver N1 L i base t ra rn rc ka kn kc (xs.set (i * 5 + 1) (.slice (some ⟨gc', 0, none⟩) (cs.length + 1) cg')) (cs ++ [x]) gc' cg' := by
  have hb := h.hb
  have hbs := h.hbase
  have hgt := (h.o.lt gt rfl)
  have hgc := (h.oc.lt gc rfl)
  have hgc' := (hown.lt gc' rfl)
  have hnx : xs.length = n * 5 := by rw [h.hxs.2, h.hX.1, h.len]
  have hi := h.hi
  have o1 := h.o.kept hg (.inr (by simp [Value.ownBlock]; omega))
  have hst := o1.stored (i * 5 + 1) (.slice (some ⟨gc', 0, none⟩) (cs.length + 1) cg')
  have hc1 : CaseAt wr' b c := h0.kept h.c hg (fun k hk => by cases hk; omega)
  have hg1 : w.grownBy wr' (some b) := by_own h.g hg (fun k hk => by cases hk; omega)
  have hby : wr'.grownBy (wr'.setCell ⟨gt, i * 5 + 1, none⟩ (.slice (some ⟨gc', 0, none⟩) (cs.length + 1) cg')) (some gt) := by_store
  have hoc := hown.kept hby (.inr (by simp [Value.ownBlock]; omega))
  refine ⟨hb, (h.x3.by_ hg (by simp; omega)).by_ hby (by simp; omega), (h.x4.by_ hg (by simp; omega)).by_ hby (by simp; omega), hst.1, ?_, h.len, hi, ⟨fun j hj => ?_, ?_⟩, ⟨?_, ?_, ?_, ?_, ?_⟩, ?_, hbs, h0.stored hc1 (by omega) _, by_store_new hg1 (by omega) _⟩
  · exact (h.hX.kept (kept_by hg fun g e hS => by cases e; omega)).kept (kept_by hby fun g e hS => by cases e; omega)
  · rw [List.getElem?_set_ne (by omega)]; exact h.hxs.1 j hj
  · rw [List.length_set]; exact h.hxs.2
  · rw [List.getElem?_set_ne (by omega)]; exact h.tx.name
  · rw [List.getElem?_set_self (by omega)]; simp
  · rw [List.getElem?_set_ne (by omega)]; exact h.tx.key
  · rw [List.getElem?_set_ne (by omega)]; exact h.tx.refs
  · rw [List.getElem?_set_ne (by omega)]; exact h.tx.checks
  · rw [flatC_append, List.length_append]; exact hoc
theorem SG.z {b : Nat} {c : CaseId} {w wr : World} {gt n cap : Nat} {ver : Int} {N1 : List Value} {L : List Tab} {i base : Nat} {t : Tab} {ra : Option Addr} {rn rc : Nat} {ka : Option Addr} {kn kc : Nat} {xs : List Value} {cs : List Col} {gc cg : Nat} (h : SG b c w wr gt n cap ver N1 L i base t ra rn rc ka kn kc xs cs gc cg) (hn : n ≤ 17592186044416) (hm : cs.length ≤ 100) :
    SZ b c w wr (.slice (some ⟨gt, 0, none⟩) n cap) ver (L.set i { t with cols := cs }) := by
  have hb := h.hb
  have hbs := h.hbase
  have hC : ColsAt (fun g => base ≤ g) wr (.slice (some ⟨gc, 0, none⟩) cs.length cg) cs := cols_own h.oc (by omega)
  have hx := (h.hX.part.mono (S' := fun g => b < g ∧ g ≠ w.heap.size ∧ g ≠ w.heap.size + 1 ∧ g ≠ gt) fun g _ hS => ⟨hS.1, by omega, by omega, by have := (h.o.lt gt rfl).1; omega⟩)
  have hq : SQ false b c w wr gt n cap ver xs (L.set i { t with cols := cs }) := by
    refine ⟨hb, h.x3, h.x4, h.o, ?_, by rw [List.length_set]; exact h.len, h.c, h.g⟩
    exact hx.put (by rw [h.len]; exact h.hi) { t with cols := cs } h.hxs.2 h.hxs.1 h.tx ⟨hC.mono fun g _ (hg : base ≤ g) => ⟨by omega, by omega, by omega, by omega⟩, (fun e => by cases e), (fun e => by cases e)⟩
  exact hq.z hn
/-! ### the tables grow -/
structure SH (b : Nat) (c : CaseId) (w wr : World) (gc g k cap : Nat) (ver : Int) (xs : List Value) (L : List Tab) : Prop where
  hb : b < w.heap.size
  x3 : SBoxF wr w.heap.size ver (some ⟨g, 0, none⟩) k cap
  x4 : SBoxF wr (w.heap.size + 1) 0 none 0 0
  o : wr.ownsRow (w.heap.size + 2) 52 5 (.slice (some ⟨g, 0, none⟩) k cap) k xs
  x : TabsX false 3 (fun g => (b < g ∧ g < w.heap.size) ∨ g = gc) wr xs L
  gc : w.heap.size + 2 ≤ gc ∧ ∃ cur fr, wr.heap[gc]? = some (.cells cur 46 fr)
  len : L.length = k
  c : CaseAt wr b c
  g : w.grownBy wr (some b)
theorem SH.later {b : Nat} {c : CaseId} {w wr wr' : World} {gc g k cap : Nat} {ver : Int} {xs : List Value} {L : List Tab} (h : SH b c w wr gc g k cap ver xs L) (hg : Below wr.heap.size wr wr') : SH b c w wr' gc g k cap ver xs L := by
  have hg' : ∀ r, wr.grownBy wr' r := fun r => ⟨hg.os, hg.tape, hg.output, hg.size, fun k hk _ => hg.block k hk⟩
  refine ⟨h.hb, h.x3.by_ (hg' none) (by simp), h.x4.by_ (hg' none) (by simp), h.o.kept (hg' none) (.inr (by simp [Value.ownBlock])), h.x.later hg, ⟨h.gc.1, ?_⟩, h.len, h.c.grown (hg' none), by_trans h.g (hg' _)⟩
  obtain ⟨cur, fr, hc⟩ := h.gc.2
  exact ⟨cur, fr, by rw [hg.block gc (Array.getElem?_eq_some_iff.1 hc).1]; exact hc⟩
theorem SH.apart {b : Nat} {c : CaseId} {w wr : World} {gc g k cap : Nat} {ver : Int} {xs : List Value} {L : List Tab} (h : SH b c w wr gc g k cap ver xs L) : g ≠ gc := by
  rintro rfl
  obtain ⟨cur, fr, hc⟩ := h.gc.2
  obtain ⟨-, hv | ⟨g', cap', cur', hv, hg, hh, -⟩⟩ := h.o
  · simp at hv
  · simp only [Value.slice.injEq, Option.some.injEq, Addr.mk.injEq] at hv
    obtain ⟨⟨rfl, -, -⟩, -, rfl⟩ := hv
    rw [hc] at hh
    simp at hh
theorem SH.more {b : Nat} {c : CaseId} {w wr wr' : World} {gc g k cap g' cap' : Nat} {ver : Int} {xs : List Value} {L : List Tab} (h0 : CaseAt w b c) (h : SH b c w wr gc g k cap ver xs L) (t : Tab) {ca : Option Addr} {cc : Nat} {ra : Option Addr} {rn rc : Nat} {ka : Option Addr} {kn kc : Nat} (hv : TabV false 3 (fun g => (b < g ∧ g < w.heap.size) ∨ g = gc) wr t ca cc ra rn rc ka kn kc)
    (hown : wr'.ownsRow (w.heap.size + 2) 52 5 (.slice (some ⟨g', 0, none⟩) (k + 1) cap') (k + 1) (xs ++ [.string t.name, .slice ca t.cols.length cc, .int .i64 t.key, .slice ra rn rc, .slice ka kn kc])) (hg : wr.grownBy wr' (some g)) :
    SH b c w (wr'.setCell ⟨w.heap.size, 1, none⟩ (.slice (some ⟨g', 0, none⟩) (k + 1) cap')) gc g' (k + 1) cap' ver (xs ++ [.string t.name, .slice ca t.cols.length cc, .int .i64 t.key, .slice ra rn rc, .slice ka kn kc]) (L ++ [t]) := by
  have hb := h.hb
  have hap := h.apart
  have hgt := (h.o.lt g rfl)
  have hg'' := (hown.lt g' rfl)
  have hcw := h.gc.1
  have hc1 : CaseAt wr' b c := h0.kept h.c hg (fun k hk => by cases hk; omega)
  have hg1 : w.grownBy wr' (some b) := by_own h.g hg (fun k hk => by cases hk; omega)
  have hby : wr'.grownBy (wr'.setCell ⟨w.heap.size, 1, none⟩ (.slice (some ⟨g', 0, none⟩) (k + 1) cap')) (some w.heap.size) := by_store
  have x3 := h.x3.by_ hg (by simp; omega)
  refine ⟨hb, ⟨⟨by simpa using x3.s.l, by have := x3.s.c0; go_simp, by have := x3.s.c1; have := x3.s.l; go_simp⟩, fun o => by have := x3.f o; go_simp⟩, (h.x4.by_ hg (by simp; omega)).by_ hby (by simp), hown.kept hby (.inr (by simp [Value.ownBlock]; omega)), ?_, ⟨hcw, ?_⟩, by simp [h.len], h0.stored hc1 (by omega) _, by_store_new hg1 (by omega) _⟩
  · have hk : Kept (fun g => (b < g ∧ g < w.heap.size) ∨ g = gc) wr (wr'.setCell ⟨w.heap.size, 1, none⟩ (.slice (some ⟨g', 0, none⟩) (k + 1) cap')) := (kept_by hg fun x e hS => by cases e; omega).trans (kept_by hby fun x e hS => by cases e; omega)
    exact (h.x.kept hk).snoc t (hv.kept hk)
  · obtain ⟨cur, fr, hc⟩ := h.gc.2
    have hl := (Array.getElem?_eq_some_iff.1 hc).1
    refine ⟨cur, fr, ?_⟩
    rw [hby.block gc (by have := hg.size; omega) (by simp; omega), hg.block gc hl (by simp; omega)]; exact hc
theorem SH.z {b : Nat} {c : CaseId} {w wr : World} {gc g k cap : Nat} {ver : Int} {xs : List Value} {L : List Tab} (h : SH b c w wr gc g k cap ver xs L) (hk : k ≤ 1000) : SZ b c w wr (.slice (some ⟨g, 0, none⟩) k cap) ver L := by
  have hb := h.hb
  have hcw := h.gc.1
  have hgt := (h.o.lt g rfl)
  obtain ⟨⟨l, c0, c1⟩, -⟩ := h.x3
  refine ⟨hb, c0, c1, l, h.x4, ?_, h.c, h.g⟩
  have ho := h.o
  rw [← h.len] at ho
  have ht := tabs_own ho h.x (by rw [h.len]; omega)
  rw [h.len] at ht
  obtain ⟨a, cp, hv, h1, h3⟩ := ht
  refine ⟨a, cp, hv, h1, h3.imp (fun h => h) fun ⟨b', off, k1, k2, k3, k4⟩ => ⟨b', off, k1, k2, ⟨by omega, by omega⟩, fun i hi => ?_⟩⟩
  obtain ⟨ca, cc, ra, rn, rc, ka, kn, kc, c, v⟩ := k4 i hi
  exact ⟨ca, cc, ra, rn, rc, ka, kn, kc, c, v.cols.mono (fun g _ hS => by rcases hS with hS | rfl <;> omega), (fun e => by cases e), (fun e => by cases e)⟩
/-- append onto an owned slice: what lay in it lies there still. -/
theorem run_append_keep (w : World) (base : Nat) (t ty e : TypeId) (i : TypeInfo) (z : Value) (size bytes : Nat) (ht : Tryd.prog.underlying t = some (.slice e)) (hi : Tryd.prog.info? e = some i) (hz : i.zero = some z)
    (hsize : i.size = size) (hby : i.bytes = bytes) (hzs : z.cells.size = size) (hsz : 0 < size)
    (g cap n : Nat) (xs : List Value) (hown : w.ownsRow base e size (.slice (some ⟨g, 0, none⟩) n cap) n xs)
    (a : Addr) (m c : Nat) (news : List Value) (hl : news.length = m * size) (hnews : ∀ j u, news[j]? = some u → w.cell? (a.add j) = some u) (h1 : ∀ u ∈ news, u.oneCell' = true)
    (h63 : n + m ≤ maxLen) (hbytes : (n + m) * bytes ≤ 140737488355328) (hbase : base ≤ w.heap.size) :
    ∃ v' w', (Builtin.append_ #[t, t] ty #[.slice (some ⟨g, 0, none⟩) n cap, .slice (some a) m c]).run Tryd.prog w = .ok v' w' ∧ w'.ownsRow base e size v' (n + m) (xs ++ news) ∧ w.grownBy w' (some g) ∧ ∀ j, j < n * size → w'.cell? ⟨g, j, none⟩ = w.cell? ⟨g, j, none⟩ := by
  have hxl := hown.1
  by_cases hroom : n + m ≤ cap
  · obtain ⟨v', w', hr, h2, h3, -⟩ := run_append_own (P := Tryd.prog) w base t ty e i z size bytes ht hi hz hsize hby hzs hsz _ n xs hown a m c news hl hnews h1 h63 hbytes hbase
    refine ⟨v', w', hr, h2, by simpa [Value.ownBlock] using h3, fun j hj => ?_⟩
    have hown' := hown
    obtain ⟨-, hv | ⟨g', cap', cur, hv, hbg, hg, hnc, hcm, hcs, htake⟩⟩ := hown
    · simp at hv
    simp only [Value.slice.injEq, Option.some.injEq, Addr.mk.injEq] at hv
    obtain ⟨⟨rfl, -, -⟩, -, rfl⟩ := hv
    subst hsize
    have hfit : n * i.size + news.length ≤ cur.size := by rw [hl, hcs, ← Nat.add_mul]; exact Nat.mul_le_mul_right _ hroom
    have hr2 := run_append_room (P := Tryd.prog) w t ty e i ht hi g n cap cur hg a m c news hl hnews h1 hroom hfit
    have hee := hr2.symm.trans hr
    simp only [Result.ok.injEq] at hee
    obtain ⟨rfl, -⟩ := hee
    have hlt : n * i.size + 0 ≤ (n + m) * i.size := by rw [Nat.add_mul]; omega
    rw [h2.cellAt j (by omega), hown'.cellAt j (by omega), List.getElem?_append_left (by omega)]
  · obtain ⟨v', w', hr, h2, h3⟩ := run_append_arg_grows (P := Tryd.prog) w t ty e i z size bytes ht hi hz hsize hby hzs hsz ⟨g, 0, none⟩ n cap xs hxl (hown.cells rfl) a m c news hl hnews (by omega) h63 hbytes
    refine ⟨v', w', hr, own_mono h2 hbase, ⟨h3.os, h3.tape, h3.output, h3.size, fun k hk _ => h3.block k hk (by simp)⟩, fun j hj => ?_⟩
    exact World.cell?_of_block (h3.block g (hown.lt g rfl).2 (by simp))
theorem oper_append {w : World} {o : Oper} {a : Act} {K : Act → World → Prop} {Q : Exit → Act → World → Prop} (s x : Operand) (t : TypeId) (ho : o.op = .call { callee := .builtin .append, args := #[s, x], argTypes := #[t, t] }) (v u : Value) (hs : a.eval s = v) (hx : a.eval x = u) (v' : Value) (w' : World)
    (hrun : (Builtin.append_ #[t, t] o.type #[v, u]).run Tryd.prog w = .ok v' w') (h : K (a.put o.dst v') w') : Oper.wp Tryd.prog o a w K Q := by
  unfold Oper.wp
  simp [execOp, ho, resolve, invoke, builtin, hs, hx, hrun, Result.andThen]
  exact h
theorem cell_five_new7 (w : World) (v0 v1 v2 v3 v4 : Value) (T : TypeId) : ∀ j u, [v0, v1, v2, v3, v4][j]? = some u → (w.alloc (.cells #[v0, v1, v2, v3, v4] T)).cell? ((⟨w.heap.size, 0, none⟩ : Addr).add j) = some u := by
  intro j u hj
  rw [addr_add7, Nat.zero_add]
  rcases j with _ | _ | _ | _ | _ | j
  · cases hj; go_simp
  · cases hj; go_simp
  · cases hj; go_simp
  · cases hj; go_simp
  · cases hj; go_simp
  · simp at hj
def lenAt (w : World) (p : Addr) : Nat := match w.cell? p with | some (.slice _ n _) => n | _ => 0
theorem encode_le (n : Int) : (Utf8.encode n).size ≤ 4 := by
  unfold Utf8.encode
  dsimp only
  generalize (if Utf8.valid n = true then n.toNat else Utf8.runeError) = c
  split
  · show 1 ≤ 4; omega
  · split
    · show 2 ≤ 4; omega
    · split
      · show 3 ≤ 4; omega
      · show 4 ≤ 4; omega
theorem wpList_convS {w : World} {ops : Array Oper} {rest : List Oper} {o : Oper} {a : Act} {Q : Exit → Act → World → Prop} (hgd : o.guard = none) (x : Operand) (src dst : TypeId) (ho : o.op = .convert src dst x) (k : IntKind) (n : Int) (hx : a.eval x = .int k n)
    (hs : (Tryd.prog.underlying src).isSome = true) (hd : Tryd.prog.underlying dst = some .string) (h : ∀ s : ByteArray, ¬ 9223372036854775807 < 1 + s.size → wpList Tryd.prog ops Q rest (a.put o.dst (.string s)) w) : wpList Tryd.prog ops Q (o :: rest) a w := by
  refine wpList_plain hgd fun K hK => ?_
  have hrun := run_convert_int_string (P := Tryd.prog) w src dst k n hs hd
  unfold Oper.wp
  simp [execOp, ho, hx, hrun, Result.andThen]
  exact hK _ _ (h _ (by have := encode_le n; omega))
theorem len12 {l m j : Nat} (h : l = m + j) (hm : m ≤ 4) (hj : j ≤ 8) : l ≤ 12 := by omega
theorem dec8 {j : Nat} (h : j < 8) : decide ((j : Int) < 8) = true := by simp; omega
theorem int8 {j : Nat} (h : j < 8) : (j : Int) < 8 := by omega
theorem dec8' {j : Nat} (h : ¬ j < 8) : decide ((j : Int) < 8) = false := by simp; omega
theorem idx5 {i n : Nat} (h : i < n) : i * 5 + 1 < n * 5 := by omega
theorem app12 {l : Nat} (h : l ≤ 12) : l + 1 ≤ maxLen ∧ (l + 1) * 24 ≤ 140737488355328 := ⟨by unfold maxLen; omega, by omega⟩
set_option maxHeartbeats 8000000 in
set_option maxRecDepth 100000 in
theorem caseSpoil7_calls (b : Nat) (c : CaseId) (ver : Int) (tb n cap : Nat) (L : List Tab) (hn2 : 1 ≤ n) (hn4 : n ≤ 4) (hL : L.length = n) (hcols : ∀ t ∈ L, 1 ≤ t.cols.length ∧ t.cols.length ≤ 4 ∧ t.refs.length ≤ 4 ∧ t.checks.length ≤ 4) (w : World) (hc : CaseAt w b c) (hp : TabsAt true 3 (fun g => b < g) (fun g => b < g) w (.slice (some ⟨tb, 0, none⟩) n cap) L) :
    Calls Tryd.prog 6 #[.pointer (some ⟨b, 0, none⟩), .agg #[.int .i64 ver, .slice (some ⟨tb, 0, none⟩) n cap]] w (GotSpoil7 b c w) := by
  have mx := mixed
  have hlt := hc.lt
  obtain ⟨W0, hW0⟩ : ∃ W0, W0 = (w.alloc (.cells #[.int .i64 ver, .slice (some ⟨tb, 0, none⟩) n cap] 25)).alloc (.cells #[.int .i64 0, .slice none 0 0] 25) := ⟨_, rfl⟩
  have hb0 : Below w.heap.size w W0 := by rw [hW0]; exact ((Below.refl _ _).alloc (Nat.le_refl _) _).alloc (by simp) _
  have HX3 : Hid (SBoxF W0 w.heap.size ver (some ⟨tb, 0, none⟩) n cap) := by rw [hW0]; exact ⟨⟨by simp <;> omega, by go_simp, by go_simp⟩, fun o => by go_simp⟩
  have HX4 : Hid (SBoxF W0 (w.heap.size + 1) 0 none 0 0) := by rw [hW0]; exact ⟨⟨by simp <;> omega, by go_simp, by go_simp⟩, fun o => by go_simp⟩
  have HSZ0 : Hid (W0.heap.size = w.heap.size + 2) := by show _ = _; rw [hW0]; simp
  have HG0 : Hid (∀ r, w.grownBy W0 r) := fun r => ⟨hb0.os, hb0.tape, hb0.output, hb0.size, fun k hk _ => hb0.block k hk⟩
  have hT0 := (hp.mono (T' := fun g => b < g) (S' := fun g => b < g ∧ g < w.heap.size) (fun _ _ h => h) (fun g hg h => ⟨h, hg⟩)).later hb0
  have HC0 := Lib.hid (hc.grown (HG0.out none))
  have HP := Lib.hid hp
  have hnx := tnews_x hT0 hL
  have hnc := tnews_cell hT0 hL
  have htb : tb < w.heap.size := by
    obtain ⟨a1, c1, hv, -, h3⟩ := hp
    simp only [Value.slice.injEq] at hv
    obtain ⟨b', off, e, h, -⟩ := h3.resolve_left (by rintro rfl; simp at hL; omega)
    rw [← hv.1] at e; cases e; exact h
  obtain ⟨N1, hN⟩ : ∃ l, tnews W0 tb (n * 5) = l := ⟨_, rfl⟩
  rw [hN] at hnx hnc
  have HNX := Lib.hid hnx
  have HNC := Lib.hid hnc
  have HNL : Hid (N1.length = n * 5) := by show _ = _; rw [hnx.1, hL]
  obtain ⟨inf, hinf, hz, hsz, hby⟩ := info_parts5 infoTab8
  have HINF := Lib.hid (And.intro hinf (And.intro hz (And.intro hsz hby)))
  have HLT := Lib.hid hlt
  have HL := Lib.hid hL
  have HCOL := Lib.hid hcols
  have HCW := Lib.hid hc
  have HW0 := Lib.hid hW0
  have HTB := Lib.hid htb
  have HB0 := Lib.hid hb0
  clear hc hp hnx hnc hN hinf hz hsz hby hlt hW0 hT0 hcols hL htb hb0
  obtain ⟨⟨xl, x0, x1⟩, xf⟩ := HX3.out
  have xf1 := xf 1
  clear xf
  go_enter Tryd.func6, Tryd.ntmps6
  go_upto_region 1 with fail
  rw [← HW0.out]
  go_wp2_with (at_builtin; go_must (refine wpList_append_own _ rfl _ _ 23 rfl W0.heap.size 52 inf (.agg #[.string ⟨#[]⟩, .slice none 0 0, .int .i64 0, .slice none 0 0, .slice none 0 0]) 5 96 Tryd.underlying23 HINF.out.1 HINF.out.2.1 HINF.out.2.2.1 HINF.out.2.2.2 rfl (by decide) _ 0 [] rfl (World.ownsRow_nil _ _ _ _) ⟨tb, 0, none⟩ n cap N1 rfl HNL.out HNC.out HNX.out.one (by unfold maxLen; omega) (by omega) (by omega) ?_))
  intro v4 w4 hown hgrow hnil
  have hown2 : w4.ownsRow W0.heap.size 52 5 v4 n N1 := by simpa using hown
  have hb4 : Below W0.heap.size W0 w4 := (Below.refl _ _).grown hgrow (Nat.le_refl _) (fun k hk => by simp [Value.ownBlock] at hk)
  obtain ⟨gt, ct, rfl⟩ : ∃ gv cv, v4 = .slice (some ⟨gv, 0, none⟩) n cv := by
    obtain ⟨-, ⟨rfl, hn⟩ | ⟨g, cap, cur, hv, -⟩⟩ := hown2
    · omega
    · exact ⟨g, cap, hv⟩
  have hgt := hown2.lt gt rfl
  have HX3b := Lib.hid (HX3.out.by_ (r := none) ⟨hb4.os, hb4.tape, hb4.output, hb4.size, fun k hk _ => hb4.block k hk⟩ (by simp))
  have HSQ : Hid (SQ true b c w (w4.setCell ⟨w.heap.size, 1, none⟩ (.slice (some ⟨gt, 0, none⟩) n ct)) gt n ct ver N1 L) := by
    have hs0 := HSZ0.out
    have hl := HLT.out
    have htb := HTB.out
    have hby : w4.grownBy (w4.setCell ⟨w.heap.size, 1, none⟩ (.slice (some ⟨gt, 0, none⟩) n ct)) (some w.heap.size) := by_store
    have h4 : ∀ r, W0.grownBy w4 r := fun r => ⟨hb4.os, hb4.tape, hb4.output, hb4.size, fun k hk _ => hb4.block k hk⟩
    have h3 := HX3.out.by_ (h4 none) (by simp)
    refine ⟨hl, ?_, (HX4.out.by_ (h4 none) (by simp)).by_ hby (by simp), ?_, ?_, HL.out, ?_, ?_⟩
    · exact ⟨⟨by simpa using h3.s.l, by have := h3.s.c0; go_simp, by have := h3.s.c1; go_simp⟩, fun o => by have := h3.f o; go_simp⟩
    · have h := hown2.kept hby (.inr (by simp [Value.ownBlock]; omega))
      rw [hs0] at h; exact h
    · exact ((HNX.out.later hb4).kept (kept_by hby fun k hk hS => by cases hk; omega)).mono fun g _ hS => ⟨hS.1, by omega, by omega, by omega⟩
    · exact HCW.out.stored (HC0.out.grown (h4 none)) (Nat.le_refl _) _
    · exact by_store_new (by_trans (HG0.out _) (h4 _)) (Nat.le_refl _) _
  clear hown hgrow hnil hown2 HX3 HX4 HNC HNL HC0
  obtain ⟨⟨yl, y0, y1⟩, yf⟩ := HX3b.out
  have yf1 := yf 1
  go_upto_region 2 with fail
  obtain ⟨W1, hW1⟩ : ∃ W1, W1 = w4.setCell ⟨w.heap.size, 1, none⟩ (.slice (some ⟨gt, 0, none⟩) n ct) := ⟨_, rfl⟩
  have HW1 := Lib.hid hW1
  rw [← hW1] at HSQ
  clear hW1
  rw [← HW1.out]
  clear HW1 yf yl y0 y1 yf1 HX3b hgt hb4 x0 x1 xl xf1
  have HB6 := Lib.hid (boolp_calls b c 6 (by omega) (by omega) W1 HSQ.out.c)
  have hne0 : ((n : Int) == 0) = false := by simp; omega
  obtain ⟨⟨xl, x0, x1⟩, -⟩ := HSQ.out.x3
  go_wp2_with fail
  refine HB6.out.mono ?_
  rintro e w2 ⟨q, rfl, hc2, hby2⟩
  have HQ2 := Lib.hid (HSQ.out.case hc2 hby2)
  clear hc2 hby2 HB6 xl x0 x1 HSQ
  cases q with
  | true =>
    have HNU := Lib.hid (casenumber_calls b c w2 HQ2.out.c)
    go_wp2_with fail
    refine HNU.out.mono ?_
    rintro e w3 ⟨nv, rfl, hc3, hby3⟩
    have HQ3 := Lib.hid (HQ2.out.case hc3 hby3)
    clear hc3 hby3 HNU
    have HS3 : Hid (SQ true b c w (w3.setCell ⟨w.heap.size, 0, none⟩ (.int .i64 nv)) gt n ct nv N1 L) := by
      have h := HQ3.out
      have hgt := h.gt
      have hby : w3.grownBy (w3.setCell ⟨w.heap.size, 0, none⟩ (.int .i64 nv)) (some w.heap.size) := by_store
      refine ⟨h.hb, ?_, h.x4.by_ hby (by simp), h.o.kept hby (.inr (by simp [Value.ownBlock]; omega)), h.x.kept (kept_by hby fun g e hS => by cases e; omega), h.len, HCW.out.stored h.c (Nat.le_refl _) _, by_store_new h.g (Nat.le_refl _) _⟩
      exact ⟨⟨by simpa using h.x3.s.l, by have := h.x3.s.c0; go_simp, by have := h.x3.s.c1; go_simp⟩, fun o => by have := h.x3.f o; go_simp⟩
    obtain ⟨⟨xl, x0, x1⟩, xf⟩ := HQ3.out.x3
    have xf0 := xf 0
    clear xf
    go_upto_region 4 with fail
    obtain ⟨w5, hw5⟩ : ∃ w5, w5 = w3.setCell ⟨w.heap.size, 0, none⟩ (.int .i64 nv) := ⟨_, rfl⟩
    rw [← hw5] at HS3 ⊢
    clear hw5 xl x0 x1 xf0
    have HZ := Lib.hid (HS3.out.z (by omega))
    obtain ⟨-, z0, z1, zl, ⟨⟨rl, r0, r1⟩, rf⟩, -, -, -⟩ := HZ.out
    have rf0 := rf 0
    have rf1 := rf 1
    clear rf
    go_wp2_with fail
    exact bodyPost_ret (v := .agg #[.int .i64 nv, .slice (some ⟨gt, 0, none⟩) n ct]) (by simp [results, Tryd.results6, go_sem, r0, r1, rl, rf0, rf1]; try rfl) rfl (HZ.out.fin HCW.out)
  | false =>
    go_upto_region 5 with fail
    refine wp_region_noPanic ?_
    refine wp_region_held (S := fun w' => SQ true b c w w' gt n ct ver N1 L) mx ?_
    have hHeld : (fun w' => SQ true b c w w' gt n ct ver N1 L) w2.drew := HQ2.out.later ⟨rfl, rfl, rfl, Nat.le_refl _, fun _ _ => rfl⟩
    change wpAnyH _ _ _ _ (fun w' => SQ true b c w w' gt n ct ver N1 L) _ _ _ w2.drew
    try simp only [Act.put, List.getElem_toArray, List.getElem_cons_succ, List.getElem_cons_zero, List.setIfInBounds_toArray, List.set_cons_zero, List.set_cons_succ]
    refine wpAnyH_take (i := 0) (v := ?_) rfl (by kernel_rfl) (by kernel_rfl) (by kernel_rfl) (fun _ _ _ h => h) (Or.inl ⟨by rfl, ?_⟩) (by assumption) ?_
    rotate_left
    · intro w hSw; clear hSw; go_simp; try with_reducible rfl
    try simp only [Act.put, List.getElem_toArray, List.getElem_cons_succ, List.getElem_cons_zero, List.setIfInBounds_toArray, List.set_cons_zero, List.set_cons_succ]
    refine wpAnyH_take (i := 1) (v := ?_) rfl (by kernel_rfl) (by kernel_rfl) (by kernel_rfl) (fun _ _ _ h => h) (Or.inl ⟨by rfl, ?_⟩) (by assumption) ?_
    rotate_left
    · intro w hSw; obtain ⟨⟨l, c0, c1⟩, -⟩ := hSw.x3; clear hSw; go_simp; try with_reducible rfl
    try simp only [Act.put, List.getElem_toArray, List.getElem_cons_succ, List.getElem_cons_zero, List.setIfInBounds_toArray, List.set_cons_zero, List.set_cons_succ]
    refine wpAnyH_take (i := 2) (v := ?_) rfl (by kernel_rfl) (by kernel_rfl) (by kernel_rfl) (fun _ _ _ h => h) (Or.inl ⟨by rfl, ?_⟩) (by assumption) ?_
    rotate_left
    · intro w hSw; clear hSw; go_simp; try with_reducible rfl
    try simp only [Act.put, List.getElem_toArray, List.getElem_cons_succ, List.getElem_cons_zero, List.setIfInBounds_toArray, List.set_cons_zero, List.set_cons_succ]
    refine wpAnyH_take (i := 3) (v := ?_) rfl (by kernel_rfl) (by kernel_rfl) (by kernel_rfl) (fun _ _ _ h => h) (Or.inl ⟨by rfl, ?_⟩) (by assumption) ?_
    rotate_left
    · intro w hSw; clear hSw; go_simp; try with_reducible rfl
    try simp only [Act.put, List.getElem_toArray, List.getElem_cons_succ, List.getElem_cons_zero, List.setIfInBounds_toArray, List.set_cons_zero, List.set_cons_succ]
    refine wpAnyH_take (i := 4) (v := ?_) rfl (by kernel_rfl) (by kernel_rfl) (by kernel_rfl) (fun _ _ _ h => h) (Or.inl ⟨by rfl, ?_⟩) (by assumption) ?_
    rotate_left
    · intro w hSw; obtain ⟨⟨l, c0, c1⟩, -⟩ := hSw.x3; clear hSw; go_simp; try with_reducible rfl
    try simp only [Act.put, List.getElem_toArray, List.getElem_cons_succ, List.getElem_cons_zero, List.setIfInBounds_toArray, List.set_cons_zero, List.set_cons_succ]
    refine wpAnyH_take (i := 5) (v := ?_) rfl (by kernel_rfl) (by kernel_rfl) (by kernel_rfl) (fun _ _ _ h => h) (Or.inl ⟨by rfl, ?_⟩) (by assumption) ?_
    rotate_left
    · intro w hSw; clear hSw; go_simp; try with_reducible rfl
    try simp only [Act.put, List.getElem_toArray, List.getElem_cons_succ, List.getElem_cons_zero, List.setIfInBounds_toArray, List.set_cons_zero, List.set_cons_succ]
    refine wpAnyH_ready (rs := [6]) (by kernel_rfl) (by simp) ?_
    refine AllReadyH.cons rfl (fun K hK => ?_) AllReadyH.nil
    have HQ3 := Lib.hid hHeld
    clear hHeld
    go_simp
    go_at_call 7
    refine (int_calls b c n (by omega) (by omega) _ HQ3.out.c).mono ?_
    rintro e w3 ⟨i', rfl, hi0, hi1, hc3, hby3⟩
    obtain ⟨i, rfl⟩ : ∃ i : Nat, i' = i := ⟨i'.toNat, by omega⟩
    have HQ4 := Lib.hid (HQ3.out.case hc3 hby3)
    clear hc3 hby3
    have hin : i < n := by omega
    have hge : decide ((n : Int) ≤ (i : Int)) = false := by simp; omega
    have hge' : ¬ ((n : Int) ≤ (i : Int)) := by omega
    refine hK.out _ _ HQ4.out (fun hHeld => ?_)
    clear hK K
    try simp only [Act.put, List.getElem_toArray, List.getElem_cons_succ, List.getElem_cons_zero, List.setIfInBounds_toArray, List.set_cons_zero, List.set_cons_succ]
    refine wpAnyH_take (i := 7) (v := ?_) rfl (by kernel_rfl) (by kernel_rfl) (by kernel_rfl) (fun _ _ _ h => h) (Or.inl ⟨by rfl, ?_⟩) (by assumption) ?_
    rotate_left
    · intro w hSw; clear hSw; go_simp; try with_reducible rfl
    try simp only [Act.put, List.getElem_toArray, List.getElem_cons_succ, List.getElem_cons_zero, List.setIfInBounds_toArray, List.set_cons_zero, List.set_cons_succ]
    refine wpAnyH_take (i := 8) (v := ?_) rfl (by kernel_rfl) (by kernel_rfl) (by kernel_rfl) (fun _ _ _ h => h) (Or.inl ⟨by rfl, ?_⟩) (by assumption) ?_
    rotate_left
    · intro w hSw; clear hSw; go_simp; try with_reducible rfl
    try simp only [Act.put, List.getElem_toArray, List.getElem_cons_succ, List.getElem_cons_zero, List.setIfInBounds_toArray, List.set_cons_zero, List.set_cons_succ]
    refine wpAnyH_done (by kernel_rfl) ?_ _
    refine NoPanic.normal ?_
    clear hHeld hi0 hi1 hge hge'
    have hiL : i < L.length := by rw [HL.out]; exact hin
    obtain ⟨ca, cc, ra, rn, rc, ka, kn, kc, tx, tv⟩ := HQ4.out.x.2 i hiL
    have htc := HCOL.out _ (List.getElem_mem hiL)
    obtain ⟨t, ht⟩ : ∃ t, L[i] = t := ⟨_, rfl⟩
    rw [ht] at tx tv htc
    have k1 := HQ4.out.o.cellAt (i * 5 + 1) (by omega)
    rw [tx.cols] at k1
    have f1 := HQ4.out.o.frozenAt (i * 5 + 1)
    obtain ⟨m, hm⟩ : ∃ m, t.cols.length = m := ⟨_, rfl⟩
    have HTX := Lib.hid tx
    have HTV := Lib.hid tv
    have HT := Lib.hid ht
    have HM := Lib.hid hm
    rw [hm] at k1 htc
    have hcv := tv.cols
    rw [hm] at hcv
    obtain ⟨ca', cc', hsl, hcl1, hcl2, hcc⟩ := hcv
    simp only [Value.slice.injEq] at hsl
    obtain ⟨rfl, -, rfl⟩ := hsl
    obtain ⟨cb, co, rfl, hcb, -, hcat⟩ := hcc.resolve_left (by rintro h; rw [h] at hm; simp at hm; omega)
    have HNC2 := Lib.hid (flatC_cells t.cols hcat)
    have HNL2 : Hid ((flatC t.cols).length = m * 2) := by show _ = _; rw [flatC_length, hm]
    obtain ⟨inc, hinf, hz, hsz, hby⟩ := info_parts2 infoCol7
    have HINC := Lib.hid (And.intro hinf (And.intro hz (And.intro hsz hby)))
    clear hinf hz hsz hby tx tv ht hm hcc hcat hcl1 hcl2
    go_upto_region 6 with fail
    go_wp2_with (at_builtin; go_must (refine wpList_append_own _ rfl _ _ 48 rfl w3.heap.size 46 inc (.agg #[.string ⟨#[]⟩, .int .i64 0]) 2 24 Tryd.underlying48 HINC.out.1 HINC.out.2.1 HINC.out.2.2.1 HINC.out.2.2.2 rfl (by decide) _ 0 [] rfl (World.ownsRow_nil _ _ _ _) ⟨cb, co, none⟩ m cc (flatC t.cols) rfl HNL2.out (by intro j u hj; have := HNC2.out j u hj; unfold Addr.add; split <;> simp_all) (flatC_one _) (by unfold maxLen; omega) (by omega) (by omega) ?_))
    intro v6 w6 hown hgrow hnil
    have hown2 : w6.ownsRow w3.heap.size 46 2 v6 m (flatC t.cols) := by simpa using hown
    have hb6 : Below w3.heap.size w3 w6 := (Below.refl _ _).grown hgrow (Nat.le_refl _) (fun k hk => by simp [Value.ownBlock] at hk)
    obtain ⟨gc, cg, rfl⟩ : ∃ gv cv, v6 = .slice (some ⟨gv, 0, none⟩) m cv := by
      obtain ⟨-, ⟨rfl, hn⟩ | ⟨g, cap, cur, hv, -⟩⟩ := hown2
      · omega
      · exact ⟨g, cap, hv⟩
    have hgc := hown2.lt gc rfl
    have HQ6 := Lib.hid (HQ4.out.later hb6)
    have k6 := HQ6.out.o.cellAt (i * 5 + 1) (by omega)
    rw [HTX.out.cols, HM.out] at k6
    have f6 := HQ6.out.o.frozenAt (i * 5 + 1)
    obtain ⟨xs, hxs⟩ : ∃ xs, N1.set (i * 5 + 1) (.slice (some ⟨gc, 0, none⟩) m cg) = xs := ⟨_, rfl⟩
    have HLN : Hid (N1.length = n * 5) := by show _ = _; rw [HQ4.out.x.1, HL.out]
    have HTX7 : Hid (TabX xs i t (some ⟨gc, 0, none⟩) cg ra rn rc ka kn kc) := by
      have hl := HLN.out
      show TabX _ _ _ _ _ _ _ _ _ _ _
      rw [← hxs]
      refine ⟨?_, ?_, ?_, ?_, ?_⟩
      · rw [List.getElem?_set_ne (by omega)]; exact HTX.out.name
      · rw [List.getElem?_set_self (by omega), HM.out]
      · rw [List.getElem?_set_ne (by omega)]; exact HTX.out.key
      · rw [List.getElem?_set_ne (by omega)]; exact HTX.out.refs
      · rw [List.getElem?_set_ne (by omega)]; exact HTX.out.checks
    have HQ7 : Hid (SQ true b c w (w6.setCell ⟨gt, i * 5 + 1, none⟩ (.slice (some ⟨gc, 0, none⟩) m cg)) gt n ct ver xs L) := by
      have hgt := HQ4.out.gt
      have hb := HQ4.out.hb
      have htv : TabV true 3 (fun g => b < g ∧ g ≠ w.heap.size ∧ g ≠ w.heap.size + 1 ∧ g ≠ gt) w6 t (some ⟨gc, 0, none⟩) cg ra rn rc ka kn kc := by
        refine ⟨?_, (HTV.out.later hb6).refs, (HTV.out.later hb6).checks⟩
        have h := cols_own (l := t.cols) (by rw [HM.out]; exact hown2) (by rw [HM.out]; omega)
        rw [HM.out]
        exact h.mono fun g _ (hg : w3.heap.size ≤ g) => ⟨by omega, by omega, by omega, by omega⟩
      have h := SQ.cell HCW.out HQ6.out hin (by omega : 1 < 5) (.slice (some ⟨gc, 0, none⟩) m cg) t (by rw [hxs]; exact HTX7.out) htv
      have hset : L.set i t = L := by rw [← HT.out]; exact List.set_getElem_self hiL
      rw [hxs, hset] at h
      exact h
    have HOC : Hid ((w6.setCell ⟨gt, i * 5 + 1, none⟩ (.slice (some ⟨gc, 0, none⟩) m cg)).ownsRow w3.heap.size 46 2 (.slice (some ⟨gc, 0, none⟩) m cg) m (flatC t.cols)) := by
      have hgt := HQ4.out.gt
      exact hown2.kept (row := some gt) by_store (.inr (by simp [Value.ownBlock]; omega))
    have HXS0 : (∀ j, j / 5 ≠ i → xs[j]? = N1[j]?) ∧ xs.length = N1.length := ⟨fun j hj => by rw [← hxs, List.getElem?_set_ne (by omega)], by rw [← hxs]; simp⟩
    clear hown hgrow hnil k1 f1 hxs
    go_upto_region 7 with fail
    obtain ⟨w7, hw7⟩ : ∃ w7, w7 = w6.setCell ⟨gt, i * 5 + 1, none⟩ (.slice (some ⟨gc, 0, none⟩) m cg) := ⟨_, rfl⟩
    rw [← hw7] at HQ7 HOC ⊢
    clear hw7 k6 f6 hown2
    have hgcs : w3.heap.size ≤ gc := hgc.1
    have h3s : w.heap.size + 2 ≤ w3.heap.size := by have := HQ4.out.gt; omega
    have HXS : Hid ((∀ j, j / 5 ≠ i → xs[j]? = N1[j]?) ∧ xs.length = N1.length) := HXS0
    have hgt3 : gt < w3.heap.size := HQ4.out.gt.2
    clear hgc hb6 HNL2 HNC2 HINC hcb HTX HLN HQ6 HQ4 HQ3 HQ2
    have HI := Lib.hid (int_calls b c 11 (by omega) (by omega) w7 HQ7.out.c)
    go_wp2_with fail
    refine HI.out.mono ?_
    rintro e w8 ⟨kk, rfl, hk0, hk1, hc8, hby8⟩
    have HQ8 := Lib.hid (HQ7.out.case hc8 hby8)
    have HOC8 := Lib.hid (HOC.out.kept hby8 (own_far HOC.out (by have := HLT.out; omega)))
    clear hc8 hby8 HI HQ7 HOC
    have k8 := HQ8.out.o.cellAt (i * 5 + 1) (by omega)
    rw [HTX7.out.cols, HM.out] at k8
    have f8 := HQ8.out.o.frozenAt (i * 5 + 1)
    have hm0 : ((m : Int) == 0) = false := by simp; omega
    go_upto_block 0 with fail
    go_cut [] from 57 to 201 (fun wx => ∃ v ver ts, SZ b c w wx v ver ts)
    case first =>
      have HZ8 := Lib.hid (HQ8.out.z (by omega))
      have k3 := HQ8.out.o.cellAt (i * 5 + 3) (by omega)
      rw [HTX7.out.refs] at k3
      have f3 := HQ8.out.o.frozenAt (i * 5 + 3)
      obtain ⟨ca9, cc9, ra9, rn9, rc9, ka9, kn9, kc9, tx9, tv9⟩ := HQ8.out.x.2 i hiL
      have hrr : some (Value.slice ra rn rc) = some (.slice ra9 rn9 rc9) := HTX7.out.refs.symm.trans tx9.refs
      simp only [Option.some.injEq, Value.slice.injEq] at hrr
      obtain ⟨rfl, rfl, rfl⟩ := hrr
      obtain ⟨RN, hrn⟩ := refs_news (tv9.refs rfl)
      have hr4 : rn ≤ 4 := by have h := hrn.2.2.2.2; have h2 := (HCOL.out _ (List.getElem_mem hiL)).2.2.1; omega
      have HRN := Lib.hid hrn
      obtain ⟨inr, hinf, hz, hsz, hby⟩ := info_parts_ref
      have HINR := Lib.hid (And.intro hinf (And.intro hz (And.intro hsz hby)))
      have hkk : some (Value.slice ka kn kc) = some (.slice ka9 kn9 kc9) := HTX7.out.checks.symm.trans tx9.checks
      simp only [Option.some.injEq, Value.slice.injEq] at hkk
      obtain ⟨rfl, rfl, rfl⟩ := hkk
      obtain ⟨KN, hkn⟩ := checks_news (tv9.checks rfl)
      have hk4 : kn ≤ 4 := by have h := hkn.2.2.2.2; have h2 := (HCOL.out _ (List.getElem_mem hiL)).2.2.2; omega
      have HKN := Lib.hid hkn
      obtain ⟨inp, hpf, hpz, hpsz, hpby⟩ := info_parts_pr
      have HINP := Lib.hid (And.intro hpf (And.intro hpz (And.intro hpsz hpby)))
      have k4 := HQ8.out.o.cellAt (i * 5 + 4) (by omega)
      rw [HTX7.out.checks] at k4
      have f4 := HQ8.out.o.frozenAt (i * 5 + 4)
      clear hpf hpz hpsz hpby hkn
      clear tx9 tv9 hrn hinf hz hsz hby
      obtain rfl | rfl | rfl | rfl | rfl | rfl | rfl | rfl | rfl | rfl | rfl : kk = 0 ∨ kk = 1 ∨ kk = 2 ∨ kk = 3 ∨ kk = 4 ∨ kk = 5 ∨ kk = 6 ∨ kk = 7 ∨ kk = 8 ∨ kk = 9 ∨ kk = 10 := by omega
      · -- the name
        obtain ⟨W9, hW9⟩ : ∃ W9, W9 = w8.alloc (.cells #[.string ⟨#[]⟩, .string ⟨#[65]⟩, .string ⟨#[112, 114, 111, 106, 101, 99, 116, 115]⟩, .string ⟨#[116, 97, 115, 107, 115]⟩, .string ⟨#[57, 97]⟩, .string ⟨#[97, 45, 98]⟩, .string ⟨#[97, 98, 99, 100, 101, 102, 103, 104, 105, 106, 107, 108, 109, 110, 111, 112, 113, 114, 115, 116, 117, 118, 119, 120, 121, 122, 97, 98, 99, 100, 101, 102, 103]⟩, .string ⟨#[111, 107, 95, 49]⟩] 9) := ⟨_, rfl⟩
        have hb9 : Below w8.heap.size w8 W9 := by rw [hW9]; exact (Below.refl _ _).alloc (Nat.le_refl _) _
        have HQ9 := Lib.hid (HQ8.out.later hb9)
        have HC9 : Hid (∀ x : Nat, x < 8 → ∃ s, W9.cell? ⟨w8.heap.size, x, none⟩ = some (.string s)) := fun x hx => by
          rw [hW9]
          obtain rfl | rfl | rfl | rfl | rfl | rfl | rfl | rfl : x = 0 ∨ x = 1 ∨ x = 2 ∨ x = 3 ∨ x = 4 ∨ x = 5 ∨ x = 6 ∨ x = 7 := by omega
          all_goals exact ⟨_, by go_simp; rfl⟩
        have HL9 : Hid (w8.heap.size < W9.heap.size) := by show _ < _; rw [hW9]; simp
        have HW9 := Lib.hid hW9
        have HI8 := Lib.hid (int_calls b c 8 (by omega) (by omega) W9 HQ9.out.c)
        clear hW9 hb9
        go_wp2_with fail
        rw [← HW9.out]
        clear HW9
        refine HI8.out.mono ?_
        rintro e w9 ⟨x', rfl, hx0, hx1, hc9, hby9⟩
        obtain ⟨x, rfl⟩ : ∃ x : Nat, x' = x := ⟨x'.toNat, by omega⟩
        have HQ10 := Lib.hid (HQ9.out.case hc9 hby9)
        obtain ⟨s, hs⟩ := HC9.out x (by omega)
        have hs9 := hby9.cell hs (by simp; have := HLT.out; have := HQ8.out.g.size; omega)
        have hxge : decide ((8 : Int) ≤ (x : Int)) = false := by simp; omega
        have hxlt : (x : Int) < 8 := by omega
        have k0 := HQ10.out.o.cellAt (i * 5) (by omega)
        rw [HTX7.out.name] at k0
        have f0 := HQ10.out.o.frozenAt (i * 5)
        clear hc9 hby9 HI8 hs
        go_wp2_with fail
        go_meet
        case rel => exact ⟨_, _, _, (SQ.set_name HCW.out HQ10.out hin s).choose_spec.z (by omega)⟩
      · -- a column's name
        have hHeld0 : w8.drew.cell? ⟨gt, i * 5 + 1, none⟩ = some (.slice (some ⟨gc, 0, none⟩) m cg) := k8
        have HQD := Lib.hid (HQ8.out.later (wr' := w8.drew) ⟨rfl, rfl, rfl, Nat.le_refl _, fun _ _ => rfl⟩)
        have HOD : Hid (w8.drew.ownsRow w3.heap.size 46 2 (.slice (some ⟨gc, 0, none⟩) m cg) m (flatC t.cols)) := HOC8.out.drew
        clear k3 f3 k8 f8 k4 f4
        go_upto_region 16 with fail
        refine wp_region_noPanic ?_
        refine wp_region_held (S := fun w' => w'.cell? ⟨gt, i * 5 + 1, none⟩ = some (.slice (some ⟨gc, 0, none⟩) m cg)) mx ?_
        have hHeld : (fun w' : World => w'.cell? ⟨gt, i * 5 + 1, none⟩ = some (.slice (some ⟨gc, 0, none⟩) m cg)) w8.drew := hHeld0
        change wpAnyH _ _ _ _ (fun w' : World => w'.cell? ⟨gt, i * 5 + 1, none⟩ = some (.slice (some ⟨gc, 0, none⟩) m cg)) _ _ _ w8.drew
        clear hHeld0
        generalize w8.drew = wd at hHeld HQD HOD ⊢
        try simp only [Act.put, List.getElem_toArray, List.getElem_cons_succ, List.getElem_cons_zero, List.setIfInBounds_toArray, List.set_cons_zero, List.set_cons_succ]
        refine wpAnyH_take (i := 0) (v := ?_) rfl (by kernel_rfl) (by kernel_rfl) (by kernel_rfl) (fun _ _ _ h => h) (Or.inl ⟨by rfl, ?_⟩) (by assumption) ?_
        rotate_left
        · intro w hSw; clear hSw; go_simp; try with_reducible rfl
        try simp only [Act.put, List.getElem_toArray, List.getElem_cons_succ, List.getElem_cons_zero, List.setIfInBounds_toArray, List.set_cons_zero, List.set_cons_succ]
        refine wpAnyH_take (i := 1) (v := ?_) rfl (by kernel_rfl) (by kernel_rfl) (by kernel_rfl) (fun _ _ _ h => h) (Or.inl ⟨by rfl, ?_⟩) (by assumption) ?_
        rotate_left
        · intro w hSw; clear hSw; go_simp; try with_reducible rfl
        try simp only [Act.put, List.getElem_toArray, List.getElem_cons_succ, List.getElem_cons_zero, List.setIfInBounds_toArray, List.set_cons_zero, List.set_cons_succ]
        refine wpAnyH_take (i := 2) (v := ?_) rfl (by kernel_rfl) (by kernel_rfl) (by kernel_rfl) (fun _ _ _ h => h) (Or.inl ⟨by rfl, ?_⟩) (by assumption) ?_
        rotate_left
        · intro w hSw; clear hSw; go_simp; try with_reducible rfl
        try simp only [Act.put, List.getElem_toArray, List.getElem_cons_succ, List.getElem_cons_zero, List.setIfInBounds_toArray, List.set_cons_zero, List.set_cons_succ]
        refine wpAnyH_take (i := 3) (v := ?_) rfl (by kernel_rfl) (by kernel_rfl) (by kernel_rfl) (fun _ _ _ h => h) (Or.inl ⟨by rfl, ?_⟩) (by assumption) ?_
        rotate_left
        · intro w hSw; have hQ := hSw; clear hSw; go_simp; try with_reducible rfl
        try simp only [Act.put, List.getElem_toArray, List.getElem_cons_succ, List.getElem_cons_zero, List.setIfInBounds_toArray, List.set_cons_zero, List.set_cons_succ]
        refine wpAnyH_take (i := 4) (v := ?_) rfl (by kernel_rfl) (by kernel_rfl) (by kernel_rfl) (fun _ _ _ h => h) (Or.inl ⟨by rfl, ?_⟩) (by assumption) ?_
        rotate_left
        · intro w hSw; clear hSw; go_simp; try with_reducible rfl
        try simp only [Act.put, List.getElem_toArray, List.getElem_cons_succ, List.getElem_cons_zero, List.setIfInBounds_toArray, List.set_cons_zero, List.set_cons_succ]
        refine wpAnyH_take (i := 5) (v := ?_) rfl (by kernel_rfl) (by kernel_rfl) (by kernel_rfl) (fun _ _ _ h => h) (Or.inl ⟨by rfl, ?_⟩) (by assumption) ?_
        rotate_left
        · intro w hSw; clear hSw; go_simp; try with_reducible rfl
        try simp only [Act.put, List.getElem_toArray, List.getElem_cons_succ, List.getElem_cons_zero, List.setIfInBounds_toArray, List.set_cons_zero, List.set_cons_succ]
        refine wpAnyH_take (i := 6) (v := ?_) rfl (by kernel_rfl) (by kernel_rfl) (by kernel_rfl) (fun _ _ _ h => h) (Or.inl ⟨by rfl, ?_⟩) (by assumption) ?_
        rotate_left
        · intro w hSw; clear hSw; go_simp; try with_reducible rfl
        try simp only [Act.put, List.getElem_toArray, List.getElem_cons_succ, List.getElem_cons_zero, List.setIfInBounds_toArray, List.set_cons_zero, List.set_cons_succ]
        refine wpAnyH_take (i := 7) (v := ?_) rfl (by kernel_rfl) (by kernel_rfl) (by kernel_rfl) (fun _ _ _ h => h) (Or.inl ⟨by rfl, ?_⟩) (by assumption) ?_
        rotate_left
        · intro w hSw; clear hSw; go_simp; try with_reducible rfl
        try simp only [Act.put, List.getElem_toArray, List.getElem_cons_succ, List.getElem_cons_zero, List.setIfInBounds_toArray, List.set_cons_zero, List.set_cons_succ]
        refine wpAnyH_take (i := 8) (v := ?_) rfl (by kernel_rfl) (by kernel_rfl) (by kernel_rfl) (fun _ _ _ h => h) (Or.inl ⟨by rfl, ?_⟩) (by assumption) ?_
        rotate_left
        · intro w hSw; have hQ := hSw; clear hSw; go_simp; try with_reducible rfl
        try simp only [Act.put, List.getElem_toArray, List.getElem_cons_succ, List.getElem_cons_zero, List.setIfInBounds_toArray, List.set_cons_zero, List.set_cons_succ]
        refine wpAnyH_take (i := 9) (v := ?_) rfl (by kernel_rfl) (by kernel_rfl) (by kernel_rfl) (fun _ _ _ h => h) (Or.inl ⟨by rfl, ?_⟩) (by assumption) ?_
        rotate_left
        · intro w hSw; clear hSw; go_simp; try with_reducible rfl
        try simp only [Act.put, List.getElem_toArray, List.getElem_cons_succ, List.getElem_cons_zero, List.setIfInBounds_toArray, List.set_cons_zero, List.set_cons_succ]
        refine wpAnyH_take (i := 12) (v := ?_) rfl (by kernel_rfl) (by kernel_rfl) (by kernel_rfl) (fun _ _ _ h => h) (Or.inl ⟨by rfl, ?_⟩) (by assumption) ?_
        rotate_left
        · intro w hSw; clear hSw; go_simp; try with_reducible rfl
        try simp only [Act.put, List.getElem_toArray, List.getElem_cons_succ, List.getElem_cons_zero, List.setIfInBounds_toArray, List.set_cons_zero, List.set_cons_succ]
        refine wpAnyH_ready (rs := [10, 11]) (by kernel_rfl) (by simp) ?_
        refine AllReadyH.cons rfl (fun K hK => ?_) (AllReadyH.cons rfl (fun K hK => ?_) AllReadyH.nil)
        · clear hHeld
          go_simp
          go_at_call 7
          refine (int_calls b c m (by omega) (by omega) _ HQD.out.c).mono ?_
          rintro e wa ⟨x', rfl, hx0, hx1, hcx, hbyx⟩
          obtain ⟨x, rfl⟩ : ∃ x : Nat, x' = x := ⟨x'.toNat, by omega⟩
          have HQa := Lib.hid (HQD.out.case hcx hbyx)
          have HOa := Lib.hid (HOD.out.kept hbyx (own_far HOD.out (by have := HLT.out; omega)))
          have ka := HQa.out.o.cellAt (i * 5 + 1) (by omega)
          rw [HTX7.out.cols, HM.out] at ka
          have hxb : x < m := by omega
          clear hcx hbyx hx0 hx1
          refine hK.out _ _ ka (fun hHeld => ?_)
          clear hK K
          try simp only [Act.put, List.getElem_toArray, List.getElem_cons_succ, List.getElem_cons_zero, List.setIfInBounds_toArray, List.set_cons_zero, List.set_cons_succ]
          refine wpAnyH_ready (rs := [11, 13]) (by kernel_rfl) (by simp) ?_
          refine AllReadyH.cons rfl (fun K hK => ?_) (AllReadyH.cons rfl (fun K hK => ?_) AllReadyH.nil)
          · clear hHeld
            obtain ⟨wb, hb1⟩ : ∃ z, z = (wa).alloc (.cells #[.string ⟨#[]⟩, .string ⟨#[105, 100]⟩, .string ⟨#[120, 32, 121]⟩, .string ⟨#[255]⟩] 9) := ⟨_, rfl⟩
            have hba : Below (wa).heap.size (wa) wb := by rw [hb1]; exact (Below.refl _ _).alloc (Nat.le_refl _) _
            have HQb1 := Lib.hid (HQa.out.later hba)
            have HOb1 : Hid (wb.ownsRow w3.heap.size 46 2 (.slice (some ⟨gc, 0, none⟩) m cg) m (flatC t.cols)) := HOa.out.kept (row := none) ⟨hba.os, hba.tape, hba.output, hba.size, fun k hk _ => hba.block k hk⟩ (.inr (by simp [Value.ownBlock]))
            have hsbg : b < (wa).heap.size := HQa.out.c.lt
            have hgcg : gc < (wa).heap.size := (HOa.out.lt gc rfl).2
            obtain ⟨sblk, hsblk⟩ : ∃ z, z = (wa).heap.size := ⟨_, rfl⟩
            have hsb2 : sblk ≠ b := by omega
            have hsb3 : sblk ≠ gc := by omega
            have HCb1 : Hid (∀ y : Nat, y < 4 → ∃ s, wb.cell? ⟨sblk, y, none⟩ = some (.string s)) := fun y hy => by
              rw [hb1, hsblk]
              obtain rfl | rfl | rfl | rfl : y = 0 ∨ y = 1 ∨ y = 2 ∨ y = 3 := by omega
              all_goals exact ⟨_, by go_simp; rfl⟩
            have kb1 := HQb1.out.o.cellAt (i * 5 + 1) (by omega)
            rw [HTX7.out.cols, HM.out] at kb1
            go_simp
            try simp only [World.heap_drew] at hsblk hb1
            rw [← hb1]
            try rw [← hsblk]
            refine hK.out _ _ kb1 (fun hHeld => ?_)
            clear hK K hb1 hba hsblk hsbg hgcg
            try simp only [Act.put, List.getElem_toArray, List.getElem_cons_succ, List.getElem_cons_zero, List.setIfInBounds_toArray, List.set_cons_zero, List.set_cons_succ]
            refine wpAnyH_ready (rs := [13]) (by kernel_rfl) (by simp) ?_
            refine AllReadyH.cons rfl (fun K hK => ?_) AllReadyH.nil
            clear hHeld
            go_simp
            go_at_call 7
            refine (int_calls b c 4 (by omega) (by omega) _ HQb1.out.c).mono ?_
            rintro e wc ⟨x', rfl, hx0, hx1, hcx, hbyx⟩
            obtain ⟨y, rfl⟩ : ∃ x : Nat, x' = x := ⟨x'.toNat, by omega⟩
            have HQc1 := Lib.hid (HQb1.out.case hcx hbyx)
            have HOc1 := Lib.hid (HOb1.out.kept hbyx (own_far HOb1.out (by have := HLT.out; omega)))
            have kc1 := HQc1.out.o.cellAt (i * 5 + 1) (by omega)
            rw [HTX7.out.cols, HM.out] at kc1
            have hyb : y < 4 := by omega
            have HCc1 : Hid (∀ y : Nat, y < 4 → ∃ s, wc.cell? ⟨sblk, y, none⟩ = some (.string s)) := fun y hy => let ⟨s, hs⟩ := HCb1.out y hy; ⟨s, hbyx.cell hs (by simp; omega)⟩
            clear hcx hbyx hx0 hx1
            refine hK.out _ _ kc1 (fun hHeld => ?_)
            clear hK K
            obtain ⟨s, hs⟩ := HCc1.out y (by omega)
            have hyge : decide ((4 : Int) ≤ (y : Int)) = false := by simp; omega
            have hyI : (y : Int) < 4 := by omega
            have hxge : decide ((m : Int) ≤ (x : Int)) = false := by simp; omega
            have hxI : (x : Int) < (m : Int) := by omega
            try simp only [Act.put, List.getElem_toArray, List.getElem_cons_succ, List.getElem_cons_zero, List.setIfInBounds_toArray, List.set_cons_zero, List.set_cons_succ]
            refine wpAnyH_take (i := 14) (v := ?_) rfl (by kernel_rfl) (by kernel_rfl) (by kernel_rfl) (fun _ _ _ h => h) (Or.inl ⟨by rfl, ?_⟩) (by assumption) ?_
            rotate_left
            · intro w hSw; clear hSw; go_simp; try with_reducible rfl
            try simp only [Act.put, List.getElem_toArray, List.getElem_cons_succ, List.getElem_cons_zero, List.setIfInBounds_toArray, List.set_cons_zero, List.set_cons_succ]
            refine wpAnyH_ready (rs := [15]) (by kernel_rfl) (by simp) ?_
            refine AllReadyH.cons rfl (fun K hK => ?_) AllReadyH.nil
            clear hHeld
            go_simp
            refine hK.out _ _ kc1 (fun hHeld => ?_)
            clear hK K
            try simp only [Act.put, List.getElem_toArray, List.getElem_cons_succ, List.getElem_cons_zero, List.setIfInBounds_toArray, List.set_cons_zero, List.set_cons_succ]
            refine wpAnyH_take (i := 16) (v := ?_) rfl (by kernel_rfl) (by kernel_rfl) (by kernel_rfl) (fun _ _ _ h => h) (Or.inl ⟨by rfl, ?_⟩) (by assumption) ?_
            rotate_left
            · intro w hSw; clear hSw; go_simp; try with_reducible rfl
            try simp only [Act.put, List.getElem_toArray, List.getElem_cons_succ, List.getElem_cons_zero, List.setIfInBounds_toArray, List.set_cons_zero, List.set_cons_succ]
            refine wpAnyH_take (i := 17) (v := ?_) rfl (by kernel_rfl) (by kernel_rfl) (by kernel_rfl) (fun _ _ _ h => h) (Or.inl ⟨by rfl, ?_⟩) (by assumption) ?_
            rotate_left
            · intro w hSw; clear hSw; go_simp; try with_reducible rfl
            try simp only [Act.put, List.getElem_toArray, List.getElem_cons_succ, List.getElem_cons_zero, List.setIfInBounds_toArray, List.set_cons_zero, List.set_cons_succ]
            refine wpAnyH_ready (rs := [18]) (by kernel_rfl) (by simp) ?_
            refine AllReadyH.cons rfl (fun K hK => ?_) AllReadyH.nil
            have k11 := HOc1.out.cellAt (x * 2) (by omega)
            rw [(flatC_at t.cols x (by have := HM.out; omega)).1] at k11
            have f11 := HOc1.out.frozenAt (x * 2)
            have hgl := (HOc1.out.lt gc rfl)
            clear hHeld
            go_simp
            refine hK.out _ _ (by rw [World.cell?_setCell_other _ _ _ _ (by simp <;> omega)]; exact kc1) (fun hHeld => ?_)
            clear hK K
            try simp only [Act.put, List.getElem_toArray, List.getElem_cons_succ, List.getElem_cons_zero, List.setIfInBounds_toArray, List.set_cons_zero, List.set_cons_succ]
            refine wpAnyH_done (by kernel_rfl) ?_ _
            refine NoPanic.normal ?_
            clear hHeld kc1 k11 f11
            have HXX : Hid (TabsX true 3 (fun g => b < g ∧ g < w.heap.size) wc N1 L) := HNX.out.kept ⟨by have := HQc1.out.gt; have := HSZ0.out; omega, fun k hk hS => (HQc1.out.g.block k hS.2 (by simp; omega)).trans ((HG0.out none).block k hS.2 (by simp)).symm⟩
            go_wp2_with fail
            go_meet
            case rel => exact ⟨_, _, _, (SQ.col HCW.out HQc1.out HXX.out hin HXS.out.1 HXS.out.2 h3s hgt3 HOc1.out HTX7.out HM.out htc.2.1 (flatC_setn t.cols x s (by have := HM.out; omega)) (by rw [List.length_set]; exact HM.out)).choose_spec.z (by omega)⟩
          · clear hHeld
            go_simp
            go_at_call 7
            refine (int_calls b c 4 (by omega) (by omega) _ HQa.out.c).mono ?_
            rintro e wb ⟨x', rfl, hx0, hx1, hcx, hbyx⟩
            obtain ⟨y, rfl⟩ : ∃ x : Nat, x' = x := ⟨x'.toNat, by omega⟩
            have HQb1 := Lib.hid (HQa.out.case hcx hbyx)
            have HOb1 := Lib.hid (HOa.out.kept hbyx (own_far HOa.out (by have := HLT.out; omega)))
            have kb1 := HQb1.out.o.cellAt (i * 5 + 1) (by omega)
            rw [HTX7.out.cols, HM.out] at kb1
            have hyb : y < 4 := by omega
            clear hcx hbyx hx0 hx1
            refine hK.out _ _ kb1 (fun hHeld => ?_)
            clear hK K
            try simp only [Act.put, List.getElem_toArray, List.getElem_cons_succ, List.getElem_cons_zero, List.setIfInBounds_toArray, List.set_cons_zero, List.set_cons_succ]
            refine wpAnyH_ready (rs := [11]) (by kernel_rfl) (by simp) ?_
            refine AllReadyH.cons rfl (fun K hK => ?_) AllReadyH.nil
            clear hHeld
            obtain ⟨wc, hc1⟩ : ∃ z, z = (wb).alloc (.cells #[.string ⟨#[]⟩, .string ⟨#[105, 100]⟩, .string ⟨#[120, 32, 121]⟩, .string ⟨#[255]⟩] 9) := ⟨_, rfl⟩
            have hba : Below (wb).heap.size (wb) wc := by rw [hc1]; exact (Below.refl _ _).alloc (Nat.le_refl _) _
            have HQc1 := Lib.hid (HQb1.out.later hba)
            have HOc1 : Hid (wc.ownsRow w3.heap.size 46 2 (.slice (some ⟨gc, 0, none⟩) m cg) m (flatC t.cols)) := HOb1.out.kept (row := none) ⟨hba.os, hba.tape, hba.output, hba.size, fun k hk _ => hba.block k hk⟩ (.inr (by simp [Value.ownBlock]))
            have hsbg : b < (wb).heap.size := HQb1.out.c.lt
            have hgcg : gc < (wb).heap.size := (HOb1.out.lt gc rfl).2
            obtain ⟨sblk, hsblk⟩ : ∃ z, z = (wb).heap.size := ⟨_, rfl⟩
            have hsb2 : sblk ≠ b := by omega
            have hsb3 : sblk ≠ gc := by omega
            have HCc1 : Hid (∀ y : Nat, y < 4 → ∃ s, wc.cell? ⟨sblk, y, none⟩ = some (.string s)) := fun y hy => by
              rw [hc1, hsblk]
              obtain rfl | rfl | rfl | rfl : y = 0 ∨ y = 1 ∨ y = 2 ∨ y = 3 := by omega
              all_goals exact ⟨_, by go_simp; rfl⟩
            have kc1 := HQc1.out.o.cellAt (i * 5 + 1) (by omega)
            rw [HTX7.out.cols, HM.out] at kc1
            go_simp
            try simp only [World.heap_drew] at hsblk hc1
            rw [← hc1]
            try rw [← hsblk]
            refine hK.out _ _ kc1 (fun hHeld => ?_)
            clear hK K hc1 hba hsblk hsbg hgcg
            obtain ⟨s, hs⟩ := HCc1.out y (by omega)
            have hyge : decide ((4 : Int) ≤ (y : Int)) = false := by simp; omega
            have hyI : (y : Int) < 4 := by omega
            have hxge : decide ((m : Int) ≤ (x : Int)) = false := by simp; omega
            have hxI : (x : Int) < (m : Int) := by omega
            try simp only [Act.put, List.getElem_toArray, List.getElem_cons_succ, List.getElem_cons_zero, List.setIfInBounds_toArray, List.set_cons_zero, List.set_cons_succ]
            refine wpAnyH_take (i := 14) (v := ?_) rfl (by kernel_rfl) (by kernel_rfl) (by kernel_rfl) (fun _ _ _ h => h) (Or.inl ⟨by rfl, ?_⟩) (by assumption) ?_
            rotate_left
            · intro w hSw; clear hSw; go_simp; try with_reducible rfl
            try simp only [Act.put, List.getElem_toArray, List.getElem_cons_succ, List.getElem_cons_zero, List.setIfInBounds_toArray, List.set_cons_zero, List.set_cons_succ]
            refine wpAnyH_ready (rs := [15]) (by kernel_rfl) (by simp) ?_
            refine AllReadyH.cons rfl (fun K hK => ?_) AllReadyH.nil
            clear hHeld
            go_simp
            refine hK.out _ _ kc1 (fun hHeld => ?_)
            clear hK K
            try simp only [Act.put, List.getElem_toArray, List.getElem_cons_succ, List.getElem_cons_zero, List.setIfInBounds_toArray, List.set_cons_zero, List.set_cons_succ]
            refine wpAnyH_take (i := 16) (v := ?_) rfl (by kernel_rfl) (by kernel_rfl) (by kernel_rfl) (fun _ _ _ h => h) (Or.inl ⟨by rfl, ?_⟩) (by assumption) ?_
            rotate_left
            · intro w hSw; clear hSw; go_simp; try with_reducible rfl
            try simp only [Act.put, List.getElem_toArray, List.getElem_cons_succ, List.getElem_cons_zero, List.setIfInBounds_toArray, List.set_cons_zero, List.set_cons_succ]
            refine wpAnyH_take (i := 17) (v := ?_) rfl (by kernel_rfl) (by kernel_rfl) (by kernel_rfl) (fun _ _ _ h => h) (Or.inl ⟨by rfl, ?_⟩) (by assumption) ?_
            rotate_left
            · intro w hSw; clear hSw; go_simp; try with_reducible rfl
            try simp only [Act.put, List.getElem_toArray, List.getElem_cons_succ, List.getElem_cons_zero, List.setIfInBounds_toArray, List.set_cons_zero, List.set_cons_succ]
            refine wpAnyH_ready (rs := [18]) (by kernel_rfl) (by simp) ?_
            refine AllReadyH.cons rfl (fun K hK => ?_) AllReadyH.nil
            have k11 := HOc1.out.cellAt (x * 2) (by omega)
            rw [(flatC_at t.cols x (by have := HM.out; omega)).1] at k11
            have f11 := HOc1.out.frozenAt (x * 2)
            have hgl := (HOc1.out.lt gc rfl)
            clear hHeld
            go_simp
            refine hK.out _ _ (by rw [World.cell?_setCell_other _ _ _ _ (by simp <;> omega)]; exact kc1) (fun hHeld => ?_)
            clear hK K
            try simp only [Act.put, List.getElem_toArray, List.getElem_cons_succ, List.getElem_cons_zero, List.setIfInBounds_toArray, List.set_cons_zero, List.set_cons_succ]
            refine wpAnyH_done (by kernel_rfl) ?_ _
            refine NoPanic.normal ?_
            clear hHeld kc1 k11 f11
            have HXX : Hid (TabsX true 3 (fun g => b < g ∧ g < w.heap.size) wc N1 L) := HNX.out.kept ⟨by have := HQc1.out.gt; have := HSZ0.out; omega, fun k hk hS => (HQc1.out.g.block k hS.2 (by simp; omega)).trans ((HG0.out none).block k hS.2 (by simp)).symm⟩
            go_wp2_with fail
            go_meet
            case rel => exact ⟨_, _, _, (SQ.col HCW.out HQc1.out HXX.out hin HXS.out.1 HXS.out.2 h3s hgt3 HOc1.out HTX7.out HM.out htc.2.1 (flatC_setn t.cols x s (by have := HM.out; omega)) (by rw [List.length_set]; exact HM.out)).choose_spec.z (by omega)⟩
        · clear hHeld
          obtain ⟨wa, ha⟩ : ∃ z, z = (wd).alloc (.cells #[.string ⟨#[]⟩, .string ⟨#[105, 100]⟩, .string ⟨#[120, 32, 121]⟩, .string ⟨#[255]⟩] 9) := ⟨_, rfl⟩
          have hba : Below (wd).heap.size (wd) wa := by rw [ha]; exact (Below.refl _ _).alloc (Nat.le_refl _) _
          have HQa := Lib.hid (HQD.out.later hba)
          have HOa : Hid (wa.ownsRow w3.heap.size 46 2 (.slice (some ⟨gc, 0, none⟩) m cg) m (flatC t.cols)) := HOD.out.kept (row := none) ⟨hba.os, hba.tape, hba.output, hba.size, fun k hk _ => hba.block k hk⟩ (.inr (by simp [Value.ownBlock]))
          have hsbg : b < (wd).heap.size := HQD.out.c.lt
          have hgcg : gc < (wd).heap.size := (HOD.out.lt gc rfl).2
          obtain ⟨sblk, hsblk⟩ : ∃ z, z = (wd).heap.size := ⟨_, rfl⟩
          have hsb2 : sblk ≠ b := by omega
          have hsb3 : sblk ≠ gc := by omega
          have HCa : Hid (∀ y : Nat, y < 4 → ∃ s, wa.cell? ⟨sblk, y, none⟩ = some (.string s)) := fun y hy => by
            rw [ha, hsblk]
            obtain rfl | rfl | rfl | rfl : y = 0 ∨ y = 1 ∨ y = 2 ∨ y = 3 := by omega
            all_goals exact ⟨_, by go_simp; rfl⟩
          have ka := HQa.out.o.cellAt (i * 5 + 1) (by omega)
          rw [HTX7.out.cols, HM.out] at ka
          go_simp
          try simp only [World.heap_drew] at hsblk ha
          rw [← ha]
          try rw [← hsblk]
          refine hK.out _ _ ka (fun hHeld => ?_)
          clear hK K ha hba hsblk hsbg hgcg
          try simp only [Act.put, List.getElem_toArray, List.getElem_cons_succ, List.getElem_cons_zero, List.setIfInBounds_toArray, List.set_cons_zero, List.set_cons_succ]
          refine wpAnyH_ready (rs := [10]) (by kernel_rfl) (by simp) ?_
          refine AllReadyH.cons rfl (fun K hK => ?_) AllReadyH.nil
          clear hHeld
          go_simp
          go_at_call 7
          refine (int_calls b c m (by omega) (by omega) _ HQa.out.c).mono ?_
          rintro e wb ⟨x', rfl, hx0, hx1, hcx, hbyx⟩
          obtain ⟨x, rfl⟩ : ∃ x : Nat, x' = x := ⟨x'.toNat, by omega⟩
          have HQb1 := Lib.hid (HQa.out.case hcx hbyx)
          have HOb1 := Lib.hid (HOa.out.kept hbyx (own_far HOa.out (by have := HLT.out; omega)))
          have kb1 := HQb1.out.o.cellAt (i * 5 + 1) (by omega)
          rw [HTX7.out.cols, HM.out] at kb1
          have hxb : x < m := by omega
          have HCb1 : Hid (∀ y : Nat, y < 4 → ∃ s, wb.cell? ⟨sblk, y, none⟩ = some (.string s)) := fun y hy => let ⟨s, hs⟩ := HCa.out y hy; ⟨s, hbyx.cell hs (by simp; omega)⟩
          clear hcx hbyx hx0 hx1
          refine hK.out _ _ kb1 (fun hHeld => ?_)
          clear hK K
          try simp only [Act.put, List.getElem_toArray, List.getElem_cons_succ, List.getElem_cons_zero, List.setIfInBounds_toArray, List.set_cons_zero, List.set_cons_succ]
          refine wpAnyH_ready (rs := [13]) (by kernel_rfl) (by simp) ?_
          refine AllReadyH.cons rfl (fun K hK => ?_) AllReadyH.nil
          clear hHeld
          go_simp
          go_at_call 7
          refine (int_calls b c 4 (by omega) (by omega) _ HQb1.out.c).mono ?_
          rintro e wc ⟨x', rfl, hx0, hx1, hcx, hbyx⟩
          obtain ⟨y, rfl⟩ : ∃ x : Nat, x' = x := ⟨x'.toNat, by omega⟩
          have HQc1 := Lib.hid (HQb1.out.case hcx hbyx)
          have HOc1 := Lib.hid (HOb1.out.kept hbyx (own_far HOb1.out (by have := HLT.out; omega)))
          have kc1 := HQc1.out.o.cellAt (i * 5 + 1) (by omega)
          rw [HTX7.out.cols, HM.out] at kc1
          have hyb : y < 4 := by omega
          have HCc1 : Hid (∀ y : Nat, y < 4 → ∃ s, wc.cell? ⟨sblk, y, none⟩ = some (.string s)) := fun y hy => let ⟨s, hs⟩ := HCb1.out y hy; ⟨s, hbyx.cell hs (by simp; omega)⟩
          clear hcx hbyx hx0 hx1
          refine hK.out _ _ kc1 (fun hHeld => ?_)
          clear hK K
          obtain ⟨s, hs⟩ := HCc1.out y (by omega)
          have hyge : decide ((4 : Int) ≤ (y : Int)) = false := by simp; omega
          have hyI : (y : Int) < 4 := by omega
          have hxge : decide ((m : Int) ≤ (x : Int)) = false := by simp; omega
          have hxI : (x : Int) < (m : Int) := by omega
          try simp only [Act.put, List.getElem_toArray, List.getElem_cons_succ, List.getElem_cons_zero, List.setIfInBounds_toArray, List.set_cons_zero, List.set_cons_succ]
          refine wpAnyH_take (i := 14) (v := ?_) rfl (by kernel_rfl) (by kernel_rfl) (by kernel_rfl) (fun _ _ _ h => h) (Or.inl ⟨by rfl, ?_⟩) (by assumption) ?_
          rotate_left
          · intro w hSw; clear hSw; go_simp; try with_reducible rfl
          try simp only [Act.put, List.getElem_toArray, List.getElem_cons_succ, List.getElem_cons_zero, List.setIfInBounds_toArray, List.set_cons_zero, List.set_cons_succ]
          refine wpAnyH_ready (rs := [15]) (by kernel_rfl) (by simp) ?_
          refine AllReadyH.cons rfl (fun K hK => ?_) AllReadyH.nil
          clear hHeld
          go_simp
          refine hK.out _ _ kc1 (fun hHeld => ?_)
          clear hK K
          try simp only [Act.put, List.getElem_toArray, List.getElem_cons_succ, List.getElem_cons_zero, List.setIfInBounds_toArray, List.set_cons_zero, List.set_cons_succ]
          refine wpAnyH_take (i := 16) (v := ?_) rfl (by kernel_rfl) (by kernel_rfl) (by kernel_rfl) (fun _ _ _ h => h) (Or.inl ⟨by rfl, ?_⟩) (by assumption) ?_
          rotate_left
          · intro w hSw; clear hSw; go_simp; try with_reducible rfl
          try simp only [Act.put, List.getElem_toArray, List.getElem_cons_succ, List.getElem_cons_zero, List.setIfInBounds_toArray, List.set_cons_zero, List.set_cons_succ]
          refine wpAnyH_take (i := 17) (v := ?_) rfl (by kernel_rfl) (by kernel_rfl) (by kernel_rfl) (fun _ _ _ h => h) (Or.inl ⟨by rfl, ?_⟩) (by assumption) ?_
          rotate_left
          · intro w hSw; clear hSw; go_simp; try with_reducible rfl
          try simp only [Act.put, List.getElem_toArray, List.getElem_cons_succ, List.getElem_cons_zero, List.setIfInBounds_toArray, List.set_cons_zero, List.set_cons_succ]
          refine wpAnyH_ready (rs := [18]) (by kernel_rfl) (by simp) ?_
          refine AllReadyH.cons rfl (fun K hK => ?_) AllReadyH.nil
          have k11 := HOc1.out.cellAt (x * 2) (by omega)
          rw [(flatC_at t.cols x (by have := HM.out; omega)).1] at k11
          have f11 := HOc1.out.frozenAt (x * 2)
          have hgl := (HOc1.out.lt gc rfl)
          clear hHeld
          go_simp
          refine hK.out _ _ (by rw [World.cell?_setCell_other _ _ _ _ (by simp <;> omega)]; exact kc1) (fun hHeld => ?_)
          clear hK K
          try simp only [Act.put, List.getElem_toArray, List.getElem_cons_succ, List.getElem_cons_zero, List.setIfInBounds_toArray, List.set_cons_zero, List.set_cons_succ]
          refine wpAnyH_done (by kernel_rfl) ?_ _
          refine NoPanic.normal ?_
          clear hHeld kc1 k11 f11
          have HXX : Hid (TabsX true 3 (fun g => b < g ∧ g < w.heap.size) wc N1 L) := HNX.out.kept ⟨by have := HQc1.out.gt; have := HSZ0.out; omega, fun k hk hS => (HQc1.out.g.block k hS.2 (by simp; omega)).trans ((HG0.out none).block k hS.2 (by simp)).symm⟩
          go_wp2_with fail
          go_meet
          case rel => exact ⟨_, _, _, (SQ.col HCW.out HQc1.out HXX.out hin HXS.out.1 HXS.out.2 h3s hgt3 HOc1.out HTX7.out HM.out htc.2.1 (flatC_setn t.cols x s (by have := HM.out; omega)) (by rw [List.length_set]; exact HM.out)).choose_spec.z (by omega)⟩
      · -- a column's kind
        have hHeld0 : w8.drew.cell? ⟨gt, i * 5 + 1, none⟩ = some (.slice (some ⟨gc, 0, none⟩) m cg) := k8
        have HQD := Lib.hid (HQ8.out.later (wr' := w8.drew) ⟨rfl, rfl, rfl, Nat.le_refl _, fun _ _ => rfl⟩)
        have HOD : Hid (w8.drew.ownsRow w3.heap.size 46 2 (.slice (some ⟨gc, 0, none⟩) m cg) m (flatC t.cols)) := HOC8.out.drew
        clear k3 f3 k8 f8
        go_upto_region 18 with fail
        refine wp_region_noPanic ?_
        refine wp_region_held (S := fun w' => w'.cell? ⟨gt, i * 5 + 1, none⟩ = some (.slice (some ⟨gc, 0, none⟩) m cg)) mx ?_
        have hHeld : (fun w' : World => w'.cell? ⟨gt, i * 5 + 1, none⟩ = some (.slice (some ⟨gc, 0, none⟩) m cg)) w8.drew := hHeld0
        change wpAnyH _ _ _ _ (fun w' : World => w'.cell? ⟨gt, i * 5 + 1, none⟩ = some (.slice (some ⟨gc, 0, none⟩) m cg)) _ _ _ w8.drew
        try simp only [Act.put, List.getElem_toArray, List.getElem_cons_succ, List.getElem_cons_zero, List.setIfInBounds_toArray, List.set_cons_zero, List.set_cons_succ]
        refine wpAnyH_take (i := 0) (v := ?_) rfl (by kernel_rfl) (by kernel_rfl) (by kernel_rfl) (fun _ _ _ h => h) (Or.inl ⟨by rfl, ?_⟩) (by assumption) ?_
        rotate_left
        · intro w hSw; clear hSw; go_simp; try with_reducible rfl
        try simp only [Act.put, List.getElem_toArray, List.getElem_cons_succ, List.getElem_cons_zero, List.setIfInBounds_toArray, List.set_cons_zero, List.set_cons_succ]
        refine wpAnyH_take (i := 1) (v := ?_) rfl (by kernel_rfl) (by kernel_rfl) (by kernel_rfl) (fun _ _ _ h => h) (Or.inl ⟨by rfl, ?_⟩) (by assumption) ?_
        rotate_left
        · intro w hSw; clear hSw; go_simp; try with_reducible rfl
        try simp only [Act.put, List.getElem_toArray, List.getElem_cons_succ, List.getElem_cons_zero, List.setIfInBounds_toArray, List.set_cons_zero, List.set_cons_succ]
        refine wpAnyH_take (i := 2) (v := ?_) rfl (by kernel_rfl) (by kernel_rfl) (by kernel_rfl) (fun _ _ _ h => h) (Or.inl ⟨by rfl, ?_⟩) (by assumption) ?_
        rotate_left
        · intro w hSw; clear hSw; go_simp; try with_reducible rfl
        try simp only [Act.put, List.getElem_toArray, List.getElem_cons_succ, List.getElem_cons_zero, List.setIfInBounds_toArray, List.set_cons_zero, List.set_cons_succ]
        refine wpAnyH_take (i := 3) (v := ?_) rfl (by kernel_rfl) (by kernel_rfl) (by kernel_rfl) (fun _ _ _ h => h) (Or.inl ⟨by rfl, ?_⟩) (by assumption) ?_
        rotate_left
        · intro w hSw; have hQ := hSw; clear hSw; go_simp; try with_reducible rfl
        try simp only [Act.put, List.getElem_toArray, List.getElem_cons_succ, List.getElem_cons_zero, List.setIfInBounds_toArray, List.set_cons_zero, List.set_cons_succ]
        refine wpAnyH_take (i := 4) (v := ?_) rfl (by kernel_rfl) (by kernel_rfl) (by kernel_rfl) (fun _ _ _ h => h) (Or.inl ⟨by rfl, ?_⟩) (by assumption) ?_
        rotate_left
        · intro w hSw; clear hSw; go_simp; try with_reducible rfl
        try simp only [Act.put, List.getElem_toArray, List.getElem_cons_succ, List.getElem_cons_zero, List.setIfInBounds_toArray, List.set_cons_zero, List.set_cons_succ]
        refine wpAnyH_take (i := 5) (v := ?_) rfl (by kernel_rfl) (by kernel_rfl) (by kernel_rfl) (fun _ _ _ h => h) (Or.inl ⟨by rfl, ?_⟩) (by assumption) ?_
        rotate_left
        · intro w hSw; clear hSw; go_simp; try with_reducible rfl
        try simp only [Act.put, List.getElem_toArray, List.getElem_cons_succ, List.getElem_cons_zero, List.setIfInBounds_toArray, List.set_cons_zero, List.set_cons_succ]
        refine wpAnyH_take (i := 6) (v := ?_) rfl (by kernel_rfl) (by kernel_rfl) (by kernel_rfl) (fun _ _ _ h => h) (Or.inl ⟨by rfl, ?_⟩) (by assumption) ?_
        rotate_left
        · intro w hSw; clear hSw; go_simp; try with_reducible rfl
        try simp only [Act.put, List.getElem_toArray, List.getElem_cons_succ, List.getElem_cons_zero, List.setIfInBounds_toArray, List.set_cons_zero, List.set_cons_succ]
        refine wpAnyH_take (i := 7) (v := ?_) rfl (by kernel_rfl) (by kernel_rfl) (by kernel_rfl) (fun _ _ _ h => h) (Or.inl ⟨by rfl, ?_⟩) (by assumption) ?_
        rotate_left
        · intro w hSw; clear hSw; go_simp; try with_reducible rfl
        try simp only [Act.put, List.getElem_toArray, List.getElem_cons_succ, List.getElem_cons_zero, List.setIfInBounds_toArray, List.set_cons_zero, List.set_cons_succ]
        refine wpAnyH_take (i := 8) (v := ?_) rfl (by kernel_rfl) (by kernel_rfl) (by kernel_rfl) (fun _ _ _ h => h) (Or.inl ⟨by rfl, ?_⟩) (by assumption) ?_
        rotate_left
        · intro w hSw; have hQ := hSw; clear hSw; go_simp; try with_reducible rfl
        try simp only [Act.put, List.getElem_toArray, List.getElem_cons_succ, List.getElem_cons_zero, List.setIfInBounds_toArray, List.set_cons_zero, List.set_cons_succ]
        refine wpAnyH_take (i := 9) (v := ?_) rfl (by kernel_rfl) (by kernel_rfl) (by kernel_rfl) (fun _ _ _ h => h) (Or.inl ⟨by rfl, ?_⟩) (by assumption) ?_
        rotate_left
        · intro w hSw; clear hSw; go_simp; try with_reducible rfl
        try simp only [Act.put, List.getElem_toArray, List.getElem_cons_succ, List.getElem_cons_zero, List.setIfInBounds_toArray, List.set_cons_zero, List.set_cons_succ]
        refine wpAnyH_take (i := 11) (v := ?_) rfl (by kernel_rfl) (by kernel_rfl) (by kernel_rfl) (fun _ _ _ h => h) (Or.inl ⟨by rfl, ?_⟩) (by assumption) ?_
        rotate_left
        · intro w hSw; clear hSw; go_simp; try with_reducible rfl
        try simp only [Act.put, List.getElem_toArray, List.getElem_cons_succ, List.getElem_cons_zero, List.setIfInBounds_toArray, List.set_cons_zero, List.set_cons_succ]
        refine wpAnyH_ready (rs := [10]) (by kernel_rfl) (by simp) ?_
        refine AllReadyH.cons rfl (fun K hK => ?_) AllReadyH.nil
        clear hHeld hHeld0
        go_simp
        go_at_call 7
        refine (int_calls b c m (by omega) (by omega) _ HQD.out.c).mono ?_
        rintro e w9 ⟨x', rfl, hx0, hx1, hc9, hby9⟩
        obtain ⟨x, rfl⟩ : ∃ x : Nat, x' = x := ⟨x'.toNat, by omega⟩
        have HQ9 := Lib.hid (HQD.out.case hc9 hby9)
        have HO9 := Lib.hid (HOD.out.kept hby9 (own_far HOD.out (by have := HLT.out; omega)))
        have k9 := HQ9.out.o.cellAt (i * 5 + 1) (by omega)
        rw [HTX7.out.cols, HM.out] at k9
        have hxm : x < m := by omega
        have hxge : decide ((m : Int) ≤ (x : Int)) = false := by simp; omega
        have hxI : (x : Int) < (m : Int) := by omega
        clear hc9 hby9 hx0 hx1
        refine hK.out _ _ k9 (fun hHeld => ?_)
        clear hK K
        try simp only [Act.put, List.getElem_toArray, List.getElem_cons_succ, List.getElem_cons_zero, List.setIfInBounds_toArray, List.set_cons_zero, List.set_cons_succ]
        refine wpAnyH_ready (rs := [12]) (by kernel_rfl) (by simp) ?_
        refine AllReadyH.cons rfl (fun K hK => ?_) AllReadyH.nil
        clear hHeld k9
        go_simp
        go_at_call 22
        refine (casenumber_calls b c _ HQ9.out.c).mono ?_
        rintro e w10 ⟨nv, rfl, hc10, hby10⟩
        have HQ10 := Lib.hid (HQ9.out.case hc10 hby10)
        have HO10 := Lib.hid (HO9.out.kept hby10 (own_far HO9.out (by have := HLT.out; omega)))
        have k10 := HQ10.out.o.cellAt (i * 5 + 1) (by omega)
        rw [HTX7.out.cols, HM.out] at k10
        clear hc10 hby10
        refine hK.out _ _ k10 (fun hHeld => ?_)
        clear hK K
        try simp only [Act.put, List.getElem_toArray, List.getElem_cons_succ, List.getElem_cons_zero, List.setIfInBounds_toArray, List.set_cons_zero, List.set_cons_succ]
        refine wpAnyH_take (i := 13) (v := ?_) rfl (by kernel_rfl) (by kernel_rfl) (by kernel_rfl) (fun _ _ _ h => h) (Or.inl ⟨by rfl, ?_⟩) (by assumption) ?_
        rotate_left
        · intro w hSw; clear hSw; go_simp; try with_reducible rfl
        try simp only [Act.put, List.getElem_toArray, List.getElem_cons_succ, List.getElem_cons_zero, List.setIfInBounds_toArray, List.set_cons_zero, List.set_cons_succ]
        refine wpAnyH_take (i := 14) (v := ?_) rfl (by kernel_rfl) (by kernel_rfl) (by kernel_rfl) (fun _ _ _ h => h) (Or.inl ⟨by rfl, ?_⟩) (by assumption) ?_
        rotate_left
        · intro w hSw; clear hSw; go_simp; try with_reducible rfl
        try simp only [Act.put, List.getElem_toArray, List.getElem_cons_succ, List.getElem_cons_zero, List.setIfInBounds_toArray, List.set_cons_zero, List.set_cons_succ]
        refine wpAnyH_ready (rs := [15]) (by kernel_rfl) (by simp) ?_
        refine AllReadyH.cons rfl (fun K hK => ?_) AllReadyH.nil
        have k11 := HO10.out.cellAt (x * 2 + 1) (by omega)
        rw [(flatC_at t.cols x (by have := HM.out; omega)).2] at k11
        have f11 := HO10.out.frozenAt (x * 2 + 1)
        have hgl := (HO10.out.lt gc rfl)
        clear hHeld
        go_simp
        refine hK.out _ _ (by rw [World.cell?_setCell_other _ _ _ _ (by simp <;> omega)]; exact k10) (fun hHeld => ?_)
        clear hK K
        try simp only [Act.put, List.getElem_toArray, List.getElem_cons_succ, List.getElem_cons_zero, List.setIfInBounds_toArray, List.set_cons_zero, List.set_cons_succ]
        refine wpAnyH_done (by kernel_rfl) ?_ _
        refine NoPanic.normal ?_
        clear hHeld k10 k11 f11
        have HX10 : Hid (TabsX true 3 (fun g => b < g ∧ g < w.heap.size) w10 N1 L) := HNX.out.kept ⟨by have := HQ10.out.gt; have := HSZ0.out; omega, fun k hk hS => (HQ10.out.g.block k hS.2 (by simp; omega)).trans ((HG0.out none).block k hS.2 (by simp)).symm⟩
        go_wp2_with fail
        go_meet
        case rel => exact ⟨_, _, _, (SQ.col HCW.out HQ10.out HX10.out hin HXS.out.1 HXS.out.2 h3s hgt3 HO10.out HTX7.out HM.out htc.2.1 (flatC_setk t.cols x nv (by have := HM.out; omega)) (by rw [List.length_set]; exact HM.out)).choose_spec.z (by omega)⟩
      · -- the key
        have HNU := Lib.hid (casenumber_calls b c w8 HQ8.out.c)
        go_wp2_with fail
        refine HNU.out.mono ?_
        rintro e w9 ⟨nv, rfl, hc9, hby9⟩
        have HQ9 := Lib.hid (HQ8.out.case hc9 hby9)
        clear hc9 hby9 HNU
        have k2 := HQ9.out.o.cellAt (i * 5 + 2) (by omega)
        rw [HTX7.out.key] at k2
        have f2 := HQ9.out.o.frozenAt (i * 5 + 2)
        go_wp2_with fail
        go_meet
        case rel => exact ⟨_, _, _, (SQ.set_key HCW.out HQ9.out hin nv).choose_spec.z (by omega)⟩
      · -- no columns
        go_wp2_with fail
        go_meet
        case rel => exact ⟨_, _, _, (SQ.set_cols HCW.out HQ8.out hin [] rfl (ColsAt.nil none 0)).choose_spec.z (by omega)⟩
      · -- eight columns more
        have HX8 : Hid (TabsX true 3 (fun g => b < g ∧ g < w.heap.size) w8 N1 L) := HNX.out.kept ⟨by have := HQ8.out.gt; have := HSZ0.out; omega, fun k hk hS => (HQ8.out.g.block k hS.2 (by simp; omega)).trans ((HG0.out none).block k hS.2 (by simp)).symm⟩
        have HSG : Hid (SG b c w w8 gt n ct ver N1 L i w3.heap.size t ra rn rc ka kn kc xs t.cols gc cg) := ⟨HQ8.out.hb, HQ8.out.x3, HQ8.out.x4, HQ8.out.o, HX8.out, HL.out, hin, HXS.out, HTX7.out, by rw [HM.out]; exact HOC8.out, ⟨h3s, hgt3⟩, HQ8.out.c, HQ8.out.g⟩
        obtain ⟨inc, hcf, hcz, hcsz, hcby⟩ := info_parts2 infoCol7
        have HINC := Lib.hid (And.intro hcf (And.intro hcz (And.intro hcsz hcby)))
        have HM4 : Hid (m ≤ 4) := htc.2.1
        clear hcf hcz hcsz hcby k3 f3 k8 f8 k4 f4
        go_wp2_with fail
        go_loopw [7] (fun y wr => ∃ (j : Nat) (xs' : List Value) (cs' : List Col) (gc' cg' : Nat), j ≤ 8 ∧ y = .int .i64 j ∧ cs'.length = m + j ∧ SG b c w wr gt n ct ver N1 L i w3.heap.size t ra rn rc ka kn kc xs' cs' gc' cg') (fun y _ => 8 - (intOf y).toNat)
        case atStart => exact ⟨0, xs, t.cols, gc, cg, by omega, rfl, HM.out, HSG.out⟩
        case round =>
          obtain ⟨j, xs', cs', gc', cg', hj, rfl, hcl, hsg⟩ := hrel
          have HS := Lib.hid hsg
          have HCL := Lib.hid hcl
          have HWK := Lib.hid (step_i j (Nat.le_trans hj (by decide)))
          have hcl12 := len12 hcl HM4.out hj
          have hbase3 : w3.heap.size ≤ wr.heap.size := Nat.le_trans (hsg.oc.lt gc' rfl).1 (Nat.le_of_lt (hsg.oc.lt gc' rfl).2)
          have HJ8 := Lib.hid hj
          clear hsg hcl hj hm0 hne0 hgcs h3s hgt3 hr4 hk4 htc hn2
          by_cases hlt : j < 8
          · have hlt' := dec8 hlt
            have hltI := int8 hlt
            have k8 := HS.out.o.cellAt (i * 5 + 1) (idx5 hin)
            rw [HS.out.tx.cols] at k8
            have hcl2 : ({ t with cols := cs' } : Tab).cols.length = cs'.length := rfl
            rw [hcl2] at k8
            clear hcl2
            go_wp2_with (refine wpList_convS rfl _ _ 9 rfl _ _ rfl (by kernel_rfl) Tryd.underlying9 ?_)
            intro str hstr
            go_wp2_with (at_builtin; go_must (refine wpList_append_any7 rfl _ _ 48 rfl w3.heap.size 46 inc (.agg #[.string ⟨#[]⟩, .int .i64 0]) 2 24 Tryd.underlying48 HINC.out.1 HINC.out.2.1 HINC.out.2.2.1 HINC.out.2.2.2 rfl (by decide) _ cs'.length (flatC cs') rfl (World.ownsRow.alloc HS.out.oc _) (some ⟨wr.heap.size, 0, none⟩) 1 1 _ rfl (by simp) rfl (fun b hb => by cases hb; exact cell_two_new7 _ _ _ _) (by intro x hx; simp at hx; rcases hx with rfl | rfl <;> rfl) (app12 hcl12).1 (app12 hcl12).2 (by rw [World.size_alloc]; exact Nat.le_succ_of_le hbase3) ?_))
            intro v9 w9 hown hgrow
            obtain ⟨g9, c9, rfl⟩ : ∃ gv cv, v9 = .slice (some ⟨gv, 0, none⟩) (cs'.length + 1) cv := by
              obtain ⟨-, ⟨rfl, hn⟩ | ⟨g, cap, cur, hv, -⟩⟩ := hown
              · exact absurd hn (Nat.succ_ne_zero _)
              · exact ⟨g, cap, hv⟩
            have hal : Below wr.heap.size wr (wr.alloc (.cells #[.string (⟨#[99]⟩ ++ str), .int .i64 4] 46)) := (Below.refl _ _).alloc (Nat.le_refl _) _
            have HA := Lib.hid (HS.out.later hal)
            have HNX := Lib.hid (SG.more HCW.out HA.out ⟨⟨#[99]⟩ ++ str, 4⟩ hown hgrow)
            have ho9 := HA.out.o.kept hgrow (.inr (by have := (HA.out.oc.lt gc' rfl).1; have := HA.out.hbase; simp [Value.ownBlock]; omega))
            have k9 := ho9.cellAt (i * 5 + 1) (idx5 hin)
            rw [HA.out.tx.cols] at k9
            have f9 := ho9.frozenAt (i * 5 + 1)
            have hgl9 := (ho9.lt gt rfl).2
            have HLN : Hid ((cs' ++ [(⟨⟨#[99]⟩ ++ str, 4⟩ : Col)]).length = m + (j + 1)) := by show _ = _; rw [List.length_append, HCL.out]; rfl
            have hwk := HWK.out
            have hjb := HJ8.out
            clear hown hgrow hal ho9 k8 hstr
            go_wp2_with fail
            generalize wrap64 ((j : Int) + 1) = z at hwk ⊢
            subst hwk
            go_roundw
            case rel => exact ⟨j + 1, _, _, _, _, hlt, by go_num, HLN.out, HNX.out⟩
            case measure => simp [intOf]; omega
          · have hlt' := dec8' hlt
            have hz := HS.out.z (Nat.le_trans hn4 (by decide)) (Nat.le_trans hcl12 (by decide))
            have HZ := Lib.hid hz
            clear hz
            go_wp2_with fail
            go_meet
            case rel => exact ⟨_, _, _, HZ.out⟩
      · -- one reference more
        go_wp2_with (at_builtin; go_must (refine wpList_append_any7 rfl _ _ 49 rfl w8.heap.size 54 inr (.agg #[.slice none 0 0, .int .i64 0]) 2 32 Tryd.underlying49 HINR.out.1 HINR.out.2.1 HINR.out.2.2.1 HINR.out.2.2.2 rfl (by decide) _ 0 [] rfl (World.ownsRow_nil _ _ _ _) ra rn rc RN rfl HRN.out.2.2.2.1 HRN.out.1 HRN.out.2.1 HRN.out.2.2.1 (by unfold maxLen; omega) (by omega) (by omega) ?_))
        intro v9 w9 hown hgrow
        have hown2 : w9.ownsRow w8.heap.size 54 2 v9 rn RN := by simpa using hown
        have hb9 : Below w8.heap.size w8 w9 := (Below.refl _ _).grown hgrow (Nat.le_refl _) (fun k hk => by simp [Value.ownBlock] at hk)
        have HQ9 := Lib.hid (HQ8.out.later hb9)
        have HB8 : Hid (b < w8.heap.size) := HQ8.out.c.lt
        have HO9 := Lib.hid hown2
        have HG9 : Hid (w8.grownBy w9 (some b)) := ⟨hb9.os, hb9.tape, hb9.output, hb9.size, fun k hk _ => hb9.block k hk⟩
        have HNU := Lib.hid (casenumber_calls b c w9 HQ9.out.c)
        clear hown hgrow hown2 hb9 k3 f3 k8 f8
        go_wp2_with fail
        refine HNU.out.mono ?_
        rintro e w10 ⟨n1, rfl, hc10, hby10⟩
        obtain ⟨W10, hW10⟩ : ∃ W10, W10 = w10.alloc (.cells #[.int .i64 n1] 3) := ⟨_, rfl⟩
        have hb10 : Below w10.heap.size w10 W10 := by rw [hW10]; exact (Below.refl _ _).alloc (Nat.le_refl _) _
        have HQ10 := Lib.hid ((HQ9.out.case hc10 hby10).later hb10)
        have HO10 : Hid (W10.ownsRow w8.heap.size 54 2 v9 rn RN) := (HO9.out.kept hby10 (own_far HO9.out HB8.out)).kept (row := none) ⟨hb10.os, hb10.tape, hb10.output, hb10.size, fun k hk _ => hb10.block k hk⟩ (by cases h : v9.ownBlock; exact .inl rfl; exact .inr (by simp))
        have HG10 : Hid (w8.grownBy W10 (some b)) := by_trans (by_trans HG9.out hby10) ⟨hb10.os, hb10.tape, hb10.output, hb10.size, fun k hk _ => hb10.block k hk⟩
        have HNV := Lib.hid (casenumber_calls b c W10 HQ10.out.c)
        have HW10 := Lib.hid hW10
        clear hc10 hby10 HNU hW10 hb10
        go_wp2_with fail
        rw [← HW10.out]
        refine HNV.out.mono ?_
        rintro e w11 ⟨n2, rfl, hc11, hby11⟩
        have HQ11 := Lib.hid (HQ10.out.case hc11 hby11)
        have HO11 : Hid (w11.ownsRow w8.heap.size 54 2 v9 rn RN) := HO10.out.kept hby11 (own_far HO10.out HB8.out)
        have HBY11 := Lib.hid hby11
        have hs11 : w8.heap.size ≤ w11.heap.size := (by_trans HG10.out hby11).size
        clear hc11 hby11 HNV HW10
        go_wp2_with (at_builtin; go_must (refine wpList_append_any7 rfl _ _ 49 rfl w8.heap.size 54 inr (.agg #[.slice none 0 0, .int .i64 0]) 2 32 Tryd.underlying49 HINR.out.1 HINR.out.2.1 HINR.out.2.2.1 HINR.out.2.2.2 rfl (by decide) _ rn RN rfl (World.ownsRow.alloc HO11.out _) (some ⟨w11.heap.size, 0, none⟩) 1 1 _ rfl (by simp) rfl (fun b hb => by cases hb; exact cell_two_new7 _ _ _ _) (by intro x hx; simp at hx; rcases hx with rfl | rfl <;> rfl) (by unfold maxLen; omega) (by omega) (by simp; omega) ?_))
        intro v12 w12 hown hgrow
        have hal : ∀ r, w11.grownBy (w11.alloc (.cells #[.slice (some ⟨w10.heap.size, 0, none⟩) 1 1, .int .i64 n2] 54)) r := fun r => World.grownBy_alloc _ _ r
        have hby12 : w8.grownBy w12 (some b) := by_own (by_trans (by_trans HG10.out HBY11.out) (hal _)) hgrow (fun k hk => (HO11.out.lt k hk).1)
        have hc12 : CaseAt w12 b c := HQ8.out.c.kept (HQ11.out.c.grown (hal none)) hgrow (fun k hk => (HO11.out.lt k hk).1)
        have HQ12 := Lib.hid (HQ8.out.case hc12 hby12)
        have k39 := HQ12.out.o.cellAt (i * 5 + 3) (by omega)
        rw [HTX7.out.refs] at k39
        have f39 := HQ12.out.o.frozenAt (i * 5 + 3)
        obtain ⟨v10a, v10n, v10c, rfl⟩ : ∃ a n c, v12 = .slice a n c := by
          obtain ⟨-, ⟨rfl, hn⟩ | ⟨g, cap, cur, hv, -⟩⟩ := hown
          · exact ⟨_, _, _, rfl⟩
          · exact ⟨_, _, _, hv⟩
        clear hal hby12 hc12 hown hgrow
        go_wp2_with fail
        go_meet
        case rel => exact ⟨_, _, _, (SQ.set_refs HCW.out HQ12.out hin _ _ _).choose_spec.z (by omega)⟩
      · -- one reference of nothing
        go_wp2_with (at_builtin; go_must (refine wpList_append_any7 rfl _ _ 49 rfl w8.heap.size 54 inr (.agg #[.slice none 0 0, .int .i64 0]) 2 32 Tryd.underlying49 HINR.out.1 HINR.out.2.1 HINR.out.2.2.1 HINR.out.2.2.2 rfl (by decide) _ 0 [] rfl (World.ownsRow_nil _ _ _ _) ra rn rc RN rfl HRN.out.2.2.2.1 HRN.out.1 HRN.out.2.1 HRN.out.2.2.1 (by unfold maxLen; omega) (by omega) (by omega) ?_))
        intro v9 w9 hown hgrow
        have hown2 : w9.ownsRow w8.heap.size 54 2 v9 rn RN := by simpa using hown
        have hb9 : Below w8.heap.size w8 w9 := (Below.refl _ _).grown hgrow (Nat.le_refl _) (fun k hk => by simp [Value.ownBlock] at hk)
        have HO9 := Lib.hid hown2
        have HB9 := Lib.hid hb9
        have hs9 : w8.heap.size ≤ w9.heap.size := hb9.size
        clear hown hgrow hown2 hb9 k3 f3 k8 f8
        go_wp2_with (at_builtin; go_must (refine wpList_append_any7 rfl _ _ 49 rfl w8.heap.size 54 inr (.agg #[.slice none 0 0, .int .i64 0]) 2 32 Tryd.underlying49 HINR.out.1 HINR.out.2.1 HINR.out.2.2.1 HINR.out.2.2.2 rfl (by decide) _ rn RN rfl (World.ownsRow.alloc HO9.out _) (some ⟨w9.heap.size, 0, none⟩) 1 1 [.slice none 0 0, .int .i64 0] rfl (by simp) rfl (fun b hb => by cases hb; exact cell_two_new7 _ _ _ _) (by intro x hx; simp at hx; rcases hx with rfl | rfl <;> rfl) (by unfold maxLen; omega) (by omega) (by simp; omega) ?_))
        intro v10 w10 hown hgrow
        have hb10 : Below w8.heap.size w8 w10 := (HB9.out.alloc hs9 _).grown hgrow (by simp; omega) (fun k hk => (HO9.out.lt k hk).1)
        have HQ10 := Lib.hid (HQ8.out.later hb10)
        have k39 := HQ10.out.o.cellAt (i * 5 + 3) (by omega)
        rw [HTX7.out.refs] at k39
        have f39 := HQ10.out.o.frozenAt (i * 5 + 3)
        obtain ⟨v10a, v10n, v10c, rfl⟩ : ∃ a n c, v10 = .slice a n c := by
          obtain ⟨-, ⟨rfl, hn⟩ | ⟨g, cap, cur, hv, -⟩⟩ := hown
          · exact ⟨_, _, _, rfl⟩
          · exact ⟨_, _, _, hv⟩
        clear hb10 hown hgrow
        go_wp2_with fail
        go_meet
        case rel => exact ⟨_, _, _, (SQ.set_refs HCW.out HQ10.out hin _ _ _).choose_spec.z (by omega)⟩
      · -- five references
        go_wp2_with (refine wpList_make5 rfl _ _ rfl rfl rfl ?_)
        intro w9 hb9
        have HQ9 := Lib.hid (HQ8.out.later hb9)
        have k39 := HQ9.out.o.cellAt (i * 5 + 3) (by omega)
        rw [HTX7.out.refs] at k39
        have f39 := HQ9.out.o.frozenAt (i * 5 + 3)
        clear hb9 k3 f3 k8 f8
        go_wp2_with fail
        go_meet
        case rel => exact ⟨_, _, _, (SQ.set_refs HCW.out HQ9.out hin _ _ _).choose_spec.z (by omega)⟩
      · -- one condition more
        go_wp2_with (at_builtin; go_must (refine wpList_append_any7 rfl _ _ 50 rfl w8.heap.size 60 inp (.agg #[.int .i64 0, .int .i64 0, .int .i64 0, .int .i64 0, .int .i64 0, .int .i64 0, .string ⟨#[]⟩, .int .i64 0, .int .i64 0, .int .i64 0, .int .i64 0, .string ⟨#[]⟩, .slice none 0 0]) 13 136 Tryd.underlying50 HINP.out.1 HINP.out.2.1 HINP.out.2.2.1 HINP.out.2.2.2 rfl (by decide) _ 0 [] rfl (World.ownsRow_nil _ _ _ _) ka kn kc KN rfl HKN.out.2.2.2.1 HKN.out.1 HKN.out.2.1 HKN.out.2.2.1 (by unfold maxLen; omega) (by omega) (by omega) ?_))
        intro v9 w9 hown hgrow
        have hown2 : w9.ownsRow w8.heap.size 60 13 v9 kn KN := by simpa using hown
        have hb9 : Below w8.heap.size w8 w9 := (Below.refl _ _).grown hgrow (Nat.le_refl _) (fun k hk => by simp [Value.ownBlock] at hk)
        have HQ9 := Lib.hid (HQ8.out.later hb9)
        have HB8 : Hid (b < w8.heap.size) := HQ8.out.c.lt
        have HO9 := Lib.hid hown2
        have HG9 : Hid (w8.grownBy w9 (some b)) := ⟨hb9.os, hb9.tape, hb9.output, hb9.size, fun k hk _ => hb9.block k hk⟩
        have HSP : Hid (Calls Tryd.prog 23 #[.pointer (some ⟨b, 0, none⟩), .agg #[.int .i64 1, .int .i64 0, .int .i64 0, .int .i64 0, .int .i64 0, .int .i64 0, .string ⟨#[]⟩, .int .i64 0, .int .i64 0, .int .i64 0, .int .i64 0, .string ⟨#[]⟩, .slice none 0 0]] w9 (GotSpoil (fun _ => False) b c w9)) :=
          spoil_all b c 0 (.mk 1 0 zeroO zeroO []) (fun _ => False) (.slice none 0 0) w9 (by simp) (by simp [countP, countL]) HQ9.out.c ⟨rfl, none, 0, rfl⟩
        clear hown hgrow hown2 hb9 k3 f3 k8 f8 k4 f4
        go_wp2_with fail
        refine HSP.out.mono ?_
        rintro e w10 ⟨⟨op, cmp, ⟨lk, li, ⟨lvk, lvn, lvt⟩⟩, ⟨rk, ri, ⟨rvk, rvn, rvt⟩⟩, args⟩, t', k', rfl, hpi, hc10, hby10⟩
        obtain ⟨sa, sc, rfl, -⟩ := hpi.shape
        have HQ10 := Lib.hid (HQ9.out.case hc10 hby10)
        have HO10 := Lib.hid (HO9.out.kept hby10 (own_far HO9.out HB8.out))
        have HG10 := Lib.hid (by_trans HG9.out hby10)
        have hs10 : w8.heap.size ≤ w10.heap.size := HG10.out.size
        clear hc10 hby10 hpi HSP
        go_wp2_with (at_builtin; go_must (refine wpList_append_any7 rfl _ _ 50 rfl w8.heap.size 60 inp (.agg #[.int .i64 0, .int .i64 0, .int .i64 0, .int .i64 0, .int .i64 0, .int .i64 0, .string ⟨#[]⟩, .int .i64 0, .int .i64 0, .int .i64 0, .int .i64 0, .string ⟨#[]⟩, .slice none 0 0]) 13 136 Tryd.underlying50 HINP.out.1 HINP.out.2.1 HINP.out.2.2.1 HINP.out.2.2.2 rfl (by decide) _ kn KN rfl (World.ownsRow.alloc HO10.out _) (some ⟨w10.heap.size, 0, none⟩) 1 1 _ rfl (by simp) rfl (fun b hb => by cases hb; exact cell_pr_new7 w10 (.mk op cmp ⟨lk, li, ⟨lvk, lvn, lvt⟩⟩ ⟨rk, ri, ⟨rvk, rvn, rvt⟩⟩ args) (.slice sa _ sc)) (by intro x hx; simp at hx; rcases hx with rfl | rfl | rfl | rfl | rfl | rfl | rfl | rfl | rfl | rfl | rfl | rfl | rfl <;> rfl) (by unfold maxLen; omega) (by omega) (by simp; omega) ?_))
        intro v12 w12 hown hgrow
        have hal : ∀ r, w10.grownBy (w10.alloc (pBlock (.mk op cmp ⟨lk, li, ⟨lvk, lvn, lvt⟩⟩ ⟨rk, ri, ⟨rvk, rvn, rvt⟩⟩ args) (.slice sa args.length sc) 60)) r := fun r => World.grownBy_alloc _ _ r
        have hby12 : w8.grownBy w12 (some b) := by_own (by_trans HG10.out (hal _)) hgrow (fun k hk => (HO10.out.lt k hk).1)
        have hc12 : CaseAt w12 b c := HQ8.out.c.kept (HQ10.out.c.grown (hal none)) hgrow (fun k hk => (HO10.out.lt k hk).1)
        have HQ12 := Lib.hid (HQ8.out.case hc12 hby12)
        have k49 := HQ12.out.o.cellAt (i * 5 + 4) (by omega)
        rw [HTX7.out.checks] at k49
        have f49 := HQ12.out.o.frozenAt (i * 5 + 4)
        obtain ⟨v10a, v10n, v10c, rfl⟩ : ∃ a n c, v12 = .slice a n c := by
          obtain ⟨-, ⟨rfl, hn⟩ | ⟨g, cap, cur, hv, -⟩⟩ := hown
          · exact ⟨_, _, _, rfl⟩
          · exact ⟨_, _, _, hv⟩
        clear hal hby12 hc12 hown hgrow
        go_wp2_with fail
        go_meet
        case rel => exact ⟨_, _, _, (SQ.set_checks HCW.out HQ12.out hin _ _ _).choose_spec.z (by omega)⟩
      · -- the first table again and again
        have HX8 : Hid (TabsX true 3 (fun g => b < g ∧ g < w.heap.size) w8 N1 L) := HNX.out.kept ⟨by have := HQ8.out.gt; have := HSZ0.out; omega, fun k hk hS => (HQ8.out.g.block k hS.2 (by simp; omega)).trans ((HG0.out none).block k hS.2 (by simp)).symm⟩
        have HSH : Hid (SH b c w w8 gc gt n ct ver xs L) := by
          have hgc1 := HOC8.out.lt gc rfl
          have hcurs : ∃ cur fr, w8.heap[gc]? = some (.cells cur 46 fr) := by
            obtain ⟨-, hv | ⟨g', cap', cur', hv, hg', hh', -⟩⟩ := HOC8.out
            · simp at hv
            · simp only [Value.slice.injEq, Option.some.injEq, Addr.mk.injEq] at hv
              obtain ⟨⟨rfl, -, -⟩, -, rfl⟩ := hv
              exact ⟨_, _, hh'⟩
          refine ⟨HQ8.out.hb, HQ8.out.x3, HQ8.out.x4, HQ8.out.o, ?_, ⟨Nat.le_trans h3s hgc1.1, hcurs⟩, HL.out, HQ8.out.c, HQ8.out.g⟩
          have hx := HX8.out.part.mono (S' := fun g => (b < g ∧ g < w.heap.size) ∨ g = gc) fun g _ hS => .inl hS
          have hset : L.set i t = L := by rw [← HT.out]; exact List.set_getElem_self hiL
          rw [← hset]
          refine hx.put hiL t HXS.out.2 HXS.out.1 HTX7.out ⟨?_, (fun e => by cases e), (fun e => by cases e)⟩
          have hC : ColsAt (fun g => g = gc) w8 (.slice (some ⟨gc, 0, none⟩) m cg) t.cols := by
            obtain ⟨a9, c9, hv9, h19, h29, h39⟩ := cols_own (l := t.cols) (by rw [HM.out]; exact HOC8.out) (by rw [HM.out]; omega)
            rw [HM.out] at hv9
            refine ⟨a9, c9, by rw [HM.out]; exact hv9, h19, h29, h39.imp id fun ⟨b', off, k1, k2, k3, k4⟩ => ⟨b', off, k1, k2, ?_, k4⟩⟩
            rw [k1] at hv9
            simp only [Value.slice.injEq, Option.some.injEq, Addr.mk.injEq] at hv9
            exact hv9.1.1.symm
          rw [HM.out]
          exact hC.mono fun g _ h => .inr h
        have HINF5 := HINF
        have HN4 : Hid (1 ≤ n ∧ n ≤ 4) := ⟨hn2, hn4⟩
        clear k3 f3 k8 f8 k4 f4 hm0 hne0 hgcs h3s hgt3 hr4 hk4 htc
        go_wp2_with fail
        go_loopw [] (fun wr => ∃ (g k cap : Nat) (xs' : List Value) (L' : List Tab), 1 ≤ k ∧ k ≤ 9 ∧ SH b c w wr gc g k cap ver xs' L') (fun wr => 9 - lenAt wr ⟨w.heap.size, 1, none⟩)
        case atStart => exact ⟨gt, n, ct, xs, L, HN4.out.1, Nat.le_trans HN4.out.2 (by decide), HSH.out⟩
        case round =>
          obtain ⟨g, k, cap', xs', L', hk1, hk9, hsh⟩ := hrel
          have HS := Lib.hid hsh
          obtain ⟨⟨xl, x0, x1⟩, xf⟩ := hsh.x3
          have xf1 := xf 1
          have HK := Lib.hid (And.intro hk1 hk9)
          have hlen : lenAt wr ⟨w.heap.size, 1, none⟩ = k := by unfold lenAt; rw [x1]
          have HLEN := Lib.hid hlen
          clear hsh xf hlen
          by_cases hlt : k ≤ 8
          · have hlt' : decide ((k : Int) ≤ 8) = true := decide_eq_true (by omega)
            have h0L : 0 < L'.length := by rw [HS.out.len]; omega
            have h0k : (0 : Int) < (k : Int) := by omega
            have h0kn : 0 < k := by omega
            have HK8 := Lib.hid hlt
            obtain ⟨ca, cc, ra, rn, rc, ka, kn, kc, tx, tv⟩ := HS.out.x.2 0 h0L
            have HTV0 := Lib.hid tv
            have y0 := HS.out.o.cellAt 0 (by omega)
            have y1 := HS.out.o.cellAt 1 (by omega)
            have y2 := HS.out.o.cellAt 2 (by omega)
            have y3 := HS.out.o.cellAt 3 (by omega)
            have y4 := HS.out.o.cellAt 4 (by omega)
            obtain ⟨z0, z1, z2, z3, z4⟩ := tx
            simp only [Nat.zero_mul, Nat.zero_add] at z0 z1 z2 z3 z4
            rw [z0] at y0; rw [z1] at y1; rw [z2] at y2; rw [z3] at y3; rw [z4] at y4
            have hgl := (HS.out.o.lt g rfl).2
            obtain ⟨W9, hW90⟩ : ∃ W9, W9 = (wr.alloc (.cells #[.string L'[0].name, .slice ca L'[0].cols.length cc, .int .i64 L'[0].key, .slice ra rn rc, .slice ka kn kc] 52)).drew := ⟨_, rfl⟩
            have hW9 : W9 = wr.drew.alloc (.cells #[.string L'[0].name, .slice ca L'[0].cols.length cc, .int .i64 L'[0].key, .slice ra rn rc, .slice ka kn kc] 52) := hW90
            have hbel : Below wr.heap.size wr W9 := by rw [hW9]; exact ((Below.refl _ _).drew).alloc (Nat.le_refl _) _
            have HA := Lib.hid (HS.out.later hbel)
            have hsz9 : wr.drew.heap.size = wr.heap.size := rfl
            obtain ⟨v9, w9, hrun, hown, hgrow, hkeep⟩ := run_append_keep W9 (w.heap.size + 2) 23 23 52 inf (.agg #[.string ⟨#[]⟩, .slice none 0 0, .int .i64 0, .slice none 0 0, .slice none 0 0]) 5 96 Tryd.underlying23 HINF5.out.1 HINF5.out.2.1 HINF5.out.2.2.1 HINF5.out.2.2.2 rfl (by decide) g cap' k xs' HA.out.o ⟨wr.heap.size, 0, none⟩ 1 1 [.string L'[0].name, .slice ca L'[0].cols.length cc, .int .i64 L'[0].key, .slice ra rn rc, .slice ka kn kc] rfl (by rw [hW9, ← hsz9]; exact cell_five_new7 _ _ _ _ _ _ _) (by intro x hx; simp at hx; rcases hx with rfl | rfl | rfl | rfl | rfl <;> rfl) (by unfold maxLen; omega) (by omega) (by have := HA.out.o.lt g rfl; omega)
            obtain ⟨g9, c9, rfl⟩ : ∃ gv cv, v9 = .slice (some ⟨gv, 0, none⟩) (k + 1) cv := by
              obtain ⟨-, ⟨rfl, hn⟩ | ⟨g, cap, cur, hv, -⟩⟩ := hown
              · exact absurd hn (Nat.succ_ne_zero _)
              · exact ⟨g, cap, hv⟩
            have HNX := Lib.hid (SH.more HCW.out HA.out L'[0] (tv.later hbel) hown hgrow)
            have hgw := HA.out.o.lt g rfl
            have hx39 := HA.out.x3.by_ hgrow (by simp; omega)
            have HS1 : Hid ((fun w' => SBox w' w.heap.size ver (some ⟨g, 0, none⟩) k cap' ∧ TBox w' g L'[0].name ca L'[0].cols.length cc L'[0].key ra rn rc ka kn kc) wr.drew) := ⟨⟨xl, x0, x1⟩, ⟨hgl, y0, y1, y2, y3, y4⟩⟩
            have HT9 := HS1.out.2.later (show Below wr.drew.heap.size wr.drew W9 by rw [hW9]; exact (Below.refl _ _).alloc (Nat.le_refl _) _)
            have HS2 : Hid ((fun w' => SBox w' w.heap.size ver (some ⟨g, 0, none⟩) k cap' ∧ TBox w' g L'[0].name ca L'[0].cols.length cc L'[0].key ra rn rc ka kn kc) W9) := ⟨HA.out.x3.s, HT9⟩
            have HS3 : Hid ((fun w' => SBox w' w.heap.size ver (some ⟨g, 0, none⟩) k cap' ∧ TBox w' g L'[0].name ca L'[0].cols.length cc L'[0].key ra rn rc ka kn kc) w9) := ⟨hx39.s, Nat.lt_of_lt_of_le hgw.2 hgrow.size, (hkeep 0 (by omega)).trans HT9.c0, (hkeep 1 (by omega)).trans HT9.c1, (hkeep 2 (by omega)).trans HT9.c2, (hkeep 3 (by omega)).trans HT9.c3, (hkeep 4 (by omega)).trans HT9.c4⟩
            have HX39 := Lib.hid hx39
            have HLN : Hid (lenAt (w9.setCell ⟨w.heap.size, 1, none⟩ (.slice (some ⟨g9, 0, none⟩) (k + 1) c9)) ⟨w.heap.size, 1, none⟩ = k + 1) := by
              show _ = _; unfold lenAt; rw [HNX.out.x3.s.c1]
            have HW9 := Lib.hid hW90
            have HRUN := Lib.hid hrun
            clear tv z0 z1 z2 z3 z4 hlt hown hgrow hbel hx39 hkeep HT9 hgw hW9 hW90 hrun
            go_upto_region 12 with fail
            clear xl x0 x1 xf1 y0 y1 y2 y3 y4 hgl
            refine wp_region_noPanic ?_
            refine wp_region_X (fun w' => SBox w' w.heap.size ver (some ⟨g, 0, none⟩) k cap' ∧ TBox w' g L'[0].name ca L'[0].cols.length cc L'[0].key ra rn rc ka kn kc) 9 (by kernel_rfl) HS1.out (fun hHeld => ?_)
            try simp only [Act.put, List.getElem_toArray, List.getElem_cons_succ, List.getElem_cons_zero, List.setIfInBounds_toArray, List.set_cons_zero, List.set_cons_succ]
            refine wpX_take 0 (v := ?_) rfl (by kernel_rfl) (by kernel_rfl) (by kernel_rfl) (by kernel_rfl) (by kernel_rfl) (fun _ _ _ h => h) (Or.inl ⟨by rfl, ?_⟩) (by assumption) ?_
            rotate_left
            · intro w hSw; clear hSw; go_simp; try with_reducible rfl
            try simp only [Act.put, List.getElem_toArray, List.getElem_cons_succ, List.getElem_cons_zero, List.setIfInBounds_toArray, List.set_cons_zero, List.set_cons_succ]
            refine wpX_take 1 (v := ?_) rfl (by kernel_rfl) (by kernel_rfl) (by kernel_rfl) (by kernel_rfl) (by kernel_rfl) (fun _ _ _ h => h) (Or.inl ⟨by rfl, ?_⟩) (by assumption) ?_
            rotate_left
            · intro w hSw; obtain ⟨⟨l, c0, c1⟩, ⟨l', d0, d1, d2, d3, d4⟩⟩ := hSw; go_simp; try with_reducible rfl
            try simp only [Act.put, List.getElem_toArray, List.getElem_cons_succ, List.getElem_cons_zero, List.setIfInBounds_toArray, List.set_cons_zero, List.set_cons_succ]
            refine wpX_take 2 (v := ?_) rfl (by kernel_rfl) (by kernel_rfl) (by kernel_rfl) (by kernel_rfl) (by kernel_rfl) (fun _ _ _ h => h) (Or.inl ⟨by rfl, ?_⟩) (by assumption) ?_
            rotate_left
            · intro w hSw; clear hSw; go_simp; try with_reducible rfl
            try simp only [Act.put, List.getElem_toArray, List.getElem_cons_succ, List.getElem_cons_zero, List.setIfInBounds_toArray, List.set_cons_zero, List.set_cons_succ]
            refine wpX_take 3 (v := ?_) rfl (by kernel_rfl) (by kernel_rfl) (by kernel_rfl) (by kernel_rfl) (by kernel_rfl) (fun _ _ _ h => h) (Or.inl ⟨by rfl, ?_⟩) (by assumption) ?_
            rotate_left
            · intro w hSw; obtain ⟨⟨l, c0, c1⟩, ⟨l', d0, d1, d2, d3, d4⟩⟩ := hSw; go_simp; try with_reducible rfl
            try simp only [Act.put, List.getElem_toArray, List.getElem_cons_succ, List.getElem_cons_zero, List.setIfInBounds_toArray, List.set_cons_zero, List.set_cons_succ]
            refine wpX_take 4 (v := ?_) rfl (by kernel_rfl) (by kernel_rfl) (by kernel_rfl) (by kernel_rfl) (by kernel_rfl) (fun _ _ _ h => h) (Or.inl ⟨by rfl, ?_⟩) (by assumption) ?_
            rotate_left
            · intro w hSw; clear hSw; go_simp; try with_reducible rfl
            try simp only [Act.put, List.getElem_toArray, List.getElem_cons_succ, List.getElem_cons_zero, List.setIfInBounds_toArray, List.set_cons_zero, List.set_cons_succ]
            refine wpX_take 5 (v := ?_) rfl (by kernel_rfl) (by kernel_rfl) (by kernel_rfl) (by kernel_rfl) (by kernel_rfl) (fun _ _ _ h => h) (Or.inl ⟨by rfl, ?_⟩) (by assumption) ?_
            rotate_left
            · intro w hSw; obtain ⟨⟨l, c0, c1⟩, ⟨l', d0, d1, d2, d3, d4⟩⟩ := hSw; go_simp; try with_reducible rfl
            try simp only [Act.put, List.getElem_toArray, List.getElem_cons_succ, List.getElem_cons_zero, List.setIfInBounds_toArray, List.set_cons_zero, List.set_cons_succ]
            refine wpX_one 6 (by kernel_rfl) rfl (fun K hK => ?_)
            clear hHeld
            go_simp
            rw [← HW9.out]
            refine hK.out _ _ HS2.out (fun hHeld => ?_)
            clear hK K
            try simp only [Act.put, List.getElem_toArray, List.getElem_cons_succ, List.getElem_cons_zero, List.setIfInBounds_toArray, List.set_cons_zero, List.set_cons_succ]
            refine wpX_one 7 (by kernel_rfl) rfl (fun K hK => ?_)
            clear hHeld
            rw [if_pos (by rfl)]
            refine oper_append _ _ 23 rfl _ _ rfl rfl _ _ HRUN.out ?_
            refine hK.out _ _ HS3.out (fun hHeld => ?_)
            clear hK K
            try simp only [Act.put, List.getElem_toArray, List.getElem_cons_succ, List.getElem_cons_zero, List.setIfInBounds_toArray, List.set_cons_zero, List.set_cons_succ]
            try simp only [Act.put, List.getElem_toArray, List.getElem_cons_succ, List.getElem_cons_zero, List.setIfInBounds_toArray, List.set_cons_zero, List.set_cons_succ]
            refine wpX_take 8 (v := ?_) rfl (by kernel_rfl) (by kernel_rfl) (by kernel_rfl) (by kernel_rfl) (by kernel_rfl) (fun _ _ _ h => h) (Or.inl ⟨by rfl, ?_⟩) (by assumption) ?_
            rotate_left
            · intro w hSw; clear hSw; go_simp; try with_reducible rfl
            try simp only [Act.put, List.getElem_toArray, List.getElem_cons_succ, List.getElem_cons_zero, List.setIfInBounds_toArray, List.set_cons_zero, List.set_cons_succ]
            obtain ⟨⟨ql, q0, q1⟩, qf⟩ := HX39.out
            have qf1 := qf 1
            clear hHeld qf
            refine wpX_last 9 (by kernel_rfl) rfl rfl (by kernel_rfl) (fun K hK => ?_)
            go_simp
            refine hK.out _ _ ?_
            clear hK K
            refine NoPanic.normal ?_
            clear ql q0 q1 qf1
            go_wp2_with fail
            have hlen := HLEN.out
            have hln := HLN.out
            have hkk := HK.out
            have hk8 := HK8.out
            go_roundw
            case rel => exact ⟨g9, k + 1, c9, _, _, by omega, by omega, HNX.out⟩
            case measure => rw [hlen, hln]; omega
          · have hk : k = 9 := by omega
            have hlt' : decide ((k : Int) ≤ 8) = false := decide_eq_false (by omega)
            have HZ := Lib.hid (HS.out.z (by omega))
            clear hk
            go_wp2_with fail
            go_meet
            case rel => exact ⟨_, _, _, HZ.out⟩
    case rest =>
      obtain ⟨v, ver', ts, hz⟩ := hcut
      obtain ⟨w9, rfl⟩ : ∃ wz : World, wz = wc := ⟨_, rfl⟩
      have HZ := Lib.hid hz
      obtain ⟨va, vn, vc, rfl⟩ : ∃ a n c, v = .slice a n c := by obtain ⟨a, c, h, -⟩ := hz.t.slice; exact ⟨_, _, _, h⟩
      obtain ⟨-, z0, z1, zl, ⟨⟨rl, r0, r1⟩, rf⟩, -, -, -⟩ := HZ.out
      have rf0 := rf 0
      have rf1 := rf 1
      clear rf hz k8 f8
      go_wp2_with fail
      exact bodyPost_ret (v := .agg #[.int .i64 ver', .slice va vn vc]) (by simp [results, Tryd.results6, go_sem, r0, r1, rl, rf0, rf1]; try rfl) rfl (HZ.out.fin HCW.out)
end Go.Proofs.YtpmlhgakbpfgmaaDoor
