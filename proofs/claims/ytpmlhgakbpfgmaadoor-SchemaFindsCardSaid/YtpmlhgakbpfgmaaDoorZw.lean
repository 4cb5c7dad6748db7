/- How a schema that came in is opened: its tables and their columns. -/
import Derived.Test.YtpmlhgakbpfgmaaDoorO
import Derived.Test.YtpmlhgakbpfgmaaDoorZt
import Derived.WalkSpells
import Derived.Lib.SliceRun
set_option linter.unusedSimpArgs false
set_option linter.unusedVariables false
namespace Go.Proofs.YtpmlhgakbpfgmaaDoor
open Go.ChangeShapes Go.WideShapes Go.ChangeAt Go.RowKit Go.Joins Go.Deep

section
variable {H : Type} {enc : TypeId × Value → H} {w : World} {base : Nat} {spare : Nat → Bool} {held : Bool}
theorem cellsCol : Tryd.prog.cellsOf 46 = 2 := by kernel_rfl
theorem bytesCol : Tryd.prog.bytesOf 46 = 24 := by kernel_rfl
theorem cellsTab : Tryd.prog.cellsOf 52 = 5 := by kernel_rfl
theorem bytesTab : Tryd.prog.bytesOf 52 = 96 := by kernel_rfl
theorem cellsStr7 : Tryd.prog.cellsOf 9 = 1 := by kernel_rfl
theorem cellsInt7 : Tryd.prog.cellsOf 3 = 1 := by kernel_rfl
theorem cellsCs7 : Tryd.prog.cellsOf 48 = 1 := by kernel_rfl
theorem cellsTs7 : Tryd.prog.cellsOf 23 = 1 := by kernel_rfl
theorem cellsRs7 : Tryd.prog.cellsOf 49 = 1 := by kernel_rfl
theorem cellsPs7 : Tryd.prog.cellsOf 50 = 1 := by kernel_rfl
theorem trod5z {P : Program} {t : TypeId} {f0 f1 f2 f3 f4 : Field} {fuel : Nat} {cs : List Value} {x : DataW H × List MemPlace} (ht : P.underlying t = some (.struct #[f0, f1, f2, f3, f4])) (h : DataW.trod enc P w base spare held fuel t cs = some x) :
    ∃ y0 y1 y2 y3 y4 n, x.1 = .agg [y0.1, y1.1, y2.1, y3.1, y4.1] ∧ DataW.trod enc P w base spare held n f0.type ((cs.drop f0.offset).take (P.cellsOf f0.type)) = some y0 ∧
      DataW.trod enc P w base spare held n f1.type ((cs.drop f1.offset).take (P.cellsOf f1.type)) = some y1 ∧ DataW.trod enc P w base spare held n f2.type ((cs.drop f2.offset).take (P.cellsOf f2.type)) = some y2 ∧
      DataW.trod enc P w base spare held n f3.type ((cs.drop f3.offset).take (P.cellsOf f3.type)) = some y3 ∧ DataW.trod enc P w base spare held n f4.type ((cs.drop f4.offset).take (P.cellsOf f4.type)) = some y4 := by
  obtain ⟨xs, n, _, rfl, hl, hlen, hf⟩ := DataW.trod_struct ht h
  match xs, hlen with
  | [y0, y1, y2, y3, y4], _ => exact ⟨y0, y1, y2, y3, y4, n, by simp, by simpa using hf 0 f0 rfl, by simpa using hf 1 f1 rfl, by simpa using hf 2 f2 rfl, by simpa using hf 3 f3 rfl, by simpa using hf 4 f4 rfl⟩
theorem weights_all_z {P : Program} {e : TypeId} {l : List (DataW H)} {d : DataW H} (hd : d ∈ l) {n : Nat} (hn : n ∈ d.weights P e) : n ∈ DataW.weightsAll P e l := by
  induction l with
  | nil => cases hd
  | cons x l ih =>
    rw [DataW.weightsAll, List.mem_append]
    rcases List.mem_cons.1 hd with h | h
    · subst h; exact .inl hn
    · exact .inr (ih h)
theorem weights_each2z {P : Program} {t0 t1 : TypeId} {ts : List TypeId} {d0 d1 : DataW H} {ds : List (DataW H)} {n : Nat} (h : n ∈ d1.weights P t1) : n ∈ DataW.weightsEach P (t0 :: t1 :: ts) (d0 :: d1 :: ds) := by
  simp only [DataW.weightsEach, List.mem_append]
  exact .inr (.inl h)
/-- A slice, whatever it holds. -/
theorem open_some_slice {t e : TypeId} {n : Nat} {c : Value} {x : DataW H × List MemPlace} (ht : Tryd.prog.underlying t = some (.slice e)) (h : DataW.trod enc Tryd.prog w base spare held n t [c] = some x) : ∃ a l k, c = .slice a l k := by
  rcases open_slice ht h with ⟨e, _⟩ | ⟨a, len, cap, m, n', D, Pl, e, -⟩
  · simp at e; exact ⟨_, _, _, e⟩
  · simp at e; exact ⟨_, _, _, e⟩
theorem open_cols_cells {n : Nat} {c : Value} {x : DataW H × List MemPlace} (h : DataW.trod enc Tryd.prog w base (fun _ => true) held n 48 [c] = some x)
    (hsz : ∀ m ∈ x.1.weights Tryd.prog 48, m ≤ reachBytes) : ∃ l, ColsAt (fun _ => True) w c l := by
  rcases open_slice Tryd.underlying48 h with ⟨e, _⟩ | ⟨a, len, cap, m, n', D, Pl, e, hb, hl, hm, hmm, rfl, hel⟩
  · simp at e; subst e; exact ⟨[], ColsAt.nil _ _⟩
  · simp only [if_true] at hmm
    subst hmm
    simp at e
    subst e
    have hz := hsz ((len + (m - len)) * 24) (by
      simp only [DataW.weights, Tryd.underlying48, List.length_map, List.length_range, bytesCol]
      exact List.mem_cons_self ..)
    simp only [reachBytes] at hz
    have hall : ∀ i, i < len → ∃ q : Col, w.cell? (a.add (i * 2 + 0)) = some (.string q.n) ∧ w.cell? (a.add (i * 2 + 1)) = some (.int .i64 q.k) := by
      intro i hi
      obtain ⟨cs', h1, h2⟩ := hel i (by omega)
      rw [cellsCol] at h1
      obtain ⟨_, hlen, hc⟩ := World.cells?_some h1
      match cs', hlen with
      | [c0, c1], _ =>
        obtain ⟨y0, y1, m', hx, -, g0, g1⟩ := trod_struct2 Tryd.underlying46 h2
        simp only [cellsStr7, cellsInt7] at g0 g1
        obtain ⟨s, e0, -⟩ := DataW.trod_string Tryd.underlying9 g0
        obtain ⟨k, e1, -⟩ := DataW.trod_int Tryd.underlying3 g1
        have k0 := hc 0 (by omega)
        have k1 := hc 1 (by omega)
        rw [add_add] at k0 k1
        simp at e0 e1
        subst e0 e1
        exact ⟨⟨s, k⟩, by simpa using k0, by simpa using k1⟩
    have hsp : 0 < len → a.block < w.heap.size ∧ a.spot = none := by
      intro h0
      obtain ⟨q, k0, -⟩ := hall 0 h0
      have : a.add (0 * 2 + 0) = a := by simp [Addr.add]
      rw [this] at k0
      exact cell_lt k0
    have hex : ∀ i, i < len → ∃ q : Col, ColAt w a.block (a.off + i * 2) q := by
      intro i hi
      obtain ⟨q, k0, k1⟩ := hall i hi
      have hs := (hsp (by omega)).2
      exact ⟨q, by simpa using add_plain' k0 hs, by rw [Nat.add_assoc]; exact add_plain' k1 hs⟩
    have hinh : Inhabited Col := ⟨⟨⟨#[]⟩, 0⟩⟩
    obtain ⟨F, hF⟩ := choose_lt hex
    refine ⟨(List.range len).map F, some a, m, by rw [List.length_map, List.length_range], by simp; omega, by simp; omega, ?_⟩
    by_cases h0 : len = 0
    · left; simp [h0]
    · right
      obtain ⟨hlt, hs⟩ := hsp (by omega)
      obtain ⟨b, off, spot⟩ := a
      simp only at hs hlt
      subst hs
      exact ⟨b, off, rfl, hlt, trivial, fun i hi => by simpa using hF i (by simpa using hi)⟩
set_option maxRecDepth 100000 in
theorem open_tabs_cells {n : Nat} {c : Value} {x : DataW H × List MemPlace} (h : DataW.trod enc Tryd.prog w base (fun _ => true) held n 23 [c] = some x)
    (hsz : ∀ m ∈ x.1.weights Tryd.prog 23, m ≤ reachBytes) : ∃ l, TabsAt false 0 (fun _ => True) (fun _ => True) w c l := by
  rcases open_slice Tryd.underlying23 h with ⟨e, _⟩ | ⟨a, len, cap, m, n', D, Pl, e, hb, hl, hm, hmm, rfl, hel⟩
  · simp at e; subst e; exact ⟨[], none, 0, rfl, by simp, .inl rfl⟩
  · simp only [if_true] at hmm
    subst hmm
    simp at e
    subst e
    have hz := hsz ((len + (m - len)) * 96) (by
      simp only [DataW.weights, Tryd.underlying23, List.length_map, List.length_range, bytesTab]
      exact List.mem_cons_self ..)
    simp only [reachBytes] at hz
    have hall : ∀ i, i < len → ∃ (q : Tab) (ca : Option Addr) (cc : Nat) (ra : Option Addr) (rn rc : Nat) (ka : Option Addr) (kn kc : Nat), w.cell? (a.add (i * 5 + 0)) = some (.string q.name) ∧ w.cell? (a.add (i * 5 + 1)) = some (.slice ca q.cols.length cc) ∧ w.cell? (a.add (i * 5 + 2)) = some (.int .i64 q.key) ∧
        w.cell? (a.add (i * 5 + 3)) = some (.slice ra rn rc) ∧ w.cell? (a.add (i * 5 + 4)) = some (.slice ka kn kc) ∧ ColsAt (fun _ => True) w (.slice ca q.cols.length cc) q.cols := by
      intro i hi
      obtain ⟨cs', h1, h2⟩ := hel i (by omega)
      rw [cellsTab] at h1
      obtain ⟨_, hlen, hc⟩ := World.cells?_some h1
      match cs', hlen with
      | [c0, c1, c2, c3, c4], _ =>
        obtain ⟨y0, y1, y2, y3, y4, m', hx, g0, g1, g2, g3, g4⟩ := trod5z Tryd.underlying52 h2
        simp only [cellsStr7, cellsInt7, cellsCs7, cellsRs7, cellsPs7] at g0 g1 g2 g3 g4
        have hmem : D i ∈ (List.range len).map D := List.mem_map.2 ⟨i, List.mem_range.2 hi, rfl⟩
        obtain ⟨s, e0, -⟩ := DataW.trod_string Tryd.underlying9 g0
        obtain ⟨k, e2, -⟩ := DataW.trod_int Tryd.underlying3 g2
        obtain ⟨l, hcl⟩ := open_cols_cells (c := c1) (x := y1) (by simpa using g1) (fun q hq => hsz q (by
          have hw : q ∈ (D i).weights Tryd.prog 52 := by
            rw [show (D i) = _ from hx]
            simp only [DataW.weights, Tryd.underlying52]
            exact weights_each2z hq
          simp only [DataW.weights, Tryd.underlying23, List.mem_cons, List.mem_append]
          exact .inr (.inl (weights_all_z hmem hw))))
        obtain ⟨ra, rn, rc, rfl⟩ := open_some_slice (c := c3) Tryd.underlying49 (by simpa using g3)
        obtain ⟨ka, kn, kc, rfl⟩ := open_some_slice (c := c4) Tryd.underlying50 (by simpa using g4)
        obtain ⟨ca, cc, rfl, -⟩ := hcl.slice
        have k0 := hc 0 (by omega)
        have k1 := hc 1 (by omega)
        have k2 := hc 2 (by omega)
        have k3 := hc 3 (by omega)
        have k4 := hc 4 (by omega)
        rw [add_add] at k0 k1 k2 k3 k4
        simp at e0 e2
        subst e0 e2
        exact ⟨⟨s, k, l, [], []⟩, ca, cc, ra, rn, rc, ka, kn, kc, by simpa using k0, by simpa using k1, by simpa using k2, by simpa using k3, by simpa using k4, hcl⟩
    have hsp : 0 < len → a.block < w.heap.size ∧ a.spot = none := by
      intro h0
      obtain ⟨q, ca, cc, ra, rn, rc, ka, kn, kc, k0, -⟩ := hall 0 h0
      have : a.add (0 * 5 + 0) = a := by simp [Addr.add]
      rw [this] at k0
      exact cell_lt k0
    have hex : ∀ i, i < len → ∃ q : Tab, TabAt false 0 (fun _ => True) w a.block (a.off + i * 5) q := by
      intro i hi
      obtain ⟨q, ca, cc, ra, rn, rc, ka, kn, kc, k0, k1, k2, k3, k4, hcl⟩ := hall i hi
      have hs := (hsp (by omega)).2
      exact ⟨q, ca, cc, ra, rn, rc, ka, kn, kc, ⟨by simpa using add_plain' k0 hs, by rw [Nat.add_assoc]; exact add_plain' k1 hs, by rw [Nat.add_assoc]; exact add_plain' k2 hs, by rw [Nat.add_assoc]; exact add_plain' k3 hs, by rw [Nat.add_assoc]; exact add_plain' k4 hs⟩, hcl, (fun e => by cases e), (fun e => by cases e)⟩
    have hinh : Inhabited Tab := ⟨noTab⟩
    obtain ⟨F, hF⟩ := choose_lt hex
    refine ⟨(List.range len).map F, some a, m, by rw [List.length_map, List.length_range], by simp; omega, ?_⟩
    by_cases h0 : len = 0
    · left; simp [h0]
    · right
      obtain ⟨hlt, hs⟩ := hsp (by omega)
      obtain ⟨b, off, spot⟩ := a
      simp only at hs hlt
      subst hs
      exact ⟨b, off, rfl, hlt, trivial, fun i hi => by simpa using hF i (by simpa using hi)⟩
set_option maxRecDepth 100000 in
/-- A schema that came in. -/
theorem open_Schema {r : Reach} {b0 : Nat} {v : Value} {d : DataW H} {p : List MemPlace} (hv : Value.okWide Tryd.prog w r b0 25 v) (h : DataW.Trod enc Tryd.prog w base (fun _ => true) held 25 v d p)
    (hsz : ∀ n ∈ d.weights Tryd.prog 25, n ≤ reachBytes) : ∃ (ver : Int) (s : Value) (l : List Tab), v = .agg #[.int .i64 ver, s] ∧ TabsAt false 0 (fun _ => True) (fun _ => True) w s l := by
  obtain ⟨cs, rfl, hcs⟩ := okWide_struct Tryd.underlying25 hv
  rw [show Tryd.prog.cellsOf 25 = 2 by kernel_rfl] at hcs
  obtain ⟨cs⟩ := cs
  obtain ⟨fuel, hf⟩ := h
  match cs, hcs with
  | [c0, c1], _ =>
    obtain ⟨y0, y1, m', hx, -, g0, g1⟩ := trod_struct2 Tryd.underlying25 hf
    simp only [cellsInt7, cellsTs7, Value.cells] at g0 g1
    obtain ⟨k, e0, -⟩ := DataW.trod_int Tryd.underlying3 g0
    obtain ⟨l, hl⟩ := open_tabs_cells (c := c1) (x := y1) (by simpa using g1) (fun q hq => hsz q (by
      first
        | (rw [show d = _ from (congrArg Prod.fst hx)])
        | (rw [show d = _ from hx])
      simp only [DataW.weights, Tryd.underlying25]
      exact weights_each2z hq))
    simp at e0
    subst e0
    exact ⟨k, c1, l, rfl, hl⟩
end
end Go.Proofs.YtpmlhgakbpfgmaaDoor

/- A copy of a row; a value stored into a row that the call owns. -/
namespace Go.Proofs.YtpmlhgakbpfgmaaDoor
open Go.RowKit
theorem run_append_nil7 {w : World} (t ty e : TypeId) (i : TypeInfo) (a : Option Addr) (c : Nat) (ht : Tryd.prog.underlying t = some (.slice e)) (hi : Tryd.prog.info? e = some i) :
    (Builtin.append_ #[t, t] ty #[.slice none 0 0, .slice a 0 c]).run Tryd.prog w = .ok (.slice none 0 0) w := by
  cases a <;> simp [Builtin.append_, run_underlying ht, sizeOf, typeInfo, hi, Builtin.lenOf, Builtin.firstCells, loadCells, loadCellsFrom]
theorem wpList_append_nil7 {w : World} {ops : Array Oper} {rest : List Oper} {o : Oper} {a : Act} {Q : Exit → Act → World → Prop} (hgd : o.guard = none) (s x : Operand) (t : TypeId)
    (ho : o.op = .call { callee := .builtin .append, args := #[s, x], argTypes := #[t, t] })
    (e : TypeId) (i : TypeInfo) (ht : Tryd.prog.underlying t = some (.slice e)) (hi : Tryd.prog.info? e = some i)
    (ad : Option Addr) (c : Nat) (hs : a.eval s = .slice none 0 0) (hx : a.eval x = .slice ad 0 c)
    (h : wpList Tryd.prog ops Q rest (a.put o.dst (.slice none 0 0)) w) : wpList Tryd.prog ops Q (o :: rest) a w := by
  refine wpList_plain hgd fun K hK => ?_
  have hrun := run_append_nil7 (w := w) t o.type e i ad c ht hi
  unfold Oper.wp
  simp [execOp, ho, resolve, invoke, builtin, hs, hx, hrun, Result.andThen]
  exact hK _ _ h

/-- A copy of a row. -/
theorem rowCopy_calls (va : Value) (r : List V) (w : World) (ha : RowAt w va r) :
    Calls Tryd.prog 29 #[va] w fun e w' => ∃ v, e = .returned v ∧ w'.ownsRow w.heap.size 56 3 v r.length (flat r) ∧ Below w.heap.size w w' := by
  obtain ⟨i, hi, hz, hsz, hby⟩ := info_parts info24
  obtain ⟨pa, ca, rfl, la, ha⟩ := ha
  by_cases h0 : r = []
  · subst h0
    go_enter Tryd.func29, Tryd.ntmps29
    go_wp2_with (at_builtin; go_must (refine wpList_append_nil7 rfl _ _ 27 rfl 56 i Tryd.underlying27 hi pa ca rfl rfl ?_))
    go_wp2
    go_ret
    exact ⟨_, rfl, World.ownsRow_nil _ _ _ _, Below.refl _ _⟩
  · obtain ⟨b, off, rfl, hb⟩ := ha.resolve_left h0
    have hl := flat_length r
    have h1 := flat_one r
    have hc := flat_cells r off hb.at_
    have hn := World.ownsRow_nil w w.heap.size 56 3
    have HI := Lib.hid hi
    have HZ := Lib.hid hz
    have HSZ := Lib.hid hsz
    have HBY := Lib.hid hby
    have HL := Lib.hid hl
    have H1 := Lib.hid h1
    have HC := Lib.hid hc
    have HN := Lib.hid hn
    clear hi hz hsz hby hl h1 hc hn hb ha h0
    go_enter Tryd.func29, Tryd.ntmps29
    go_wp2_with (at_builtin; go_must (refine wpList_append_own _ rfl _ _ 27 rfl w.heap.size 56 i (V.val ⟨0, 0, ⟨#[]⟩⟩) 3 32 Tryd.underlying27 HI.out HZ.out HSZ.out HBY.out rfl (by decide) _ 0 [] rfl HN.out ⟨b, off, none⟩ r.length ca (flat r) rfl HL.out ?c1 H1.out ?c3 ?c4 ?c5 ?_))
    case c1 => intro j u hj; have := HC.out j u hj; unfold Addr.add; split <;> simp_all
    case c3 => unfold maxLen; omega
    case c4 => omega
    case c5 => omega
    intro v' w7 hown' hgrow hnil
    have HOW' := Lib.hid hown'
    have HG7 := Lib.hid hgrow
    clear hown' hgrow hnil
    go_wp2
    go_ret
    exact ⟨_, rfl, by have := HOW'.out; simpa using this, (Below.refl _ _).grown HG7.out (Nat.le_refl _) (fun k hk => by simp [Value.ownBlock] at hk)⟩

theorem flat_set7 : ∀ (r : List V) (j : Nat) (v : V), j < r.length → (((flat r).set (j * 3) (.int .i64 v.k)).set (j * 3 + 1) (.int .i64 v.n)).set (j * 3 + 2) (.string v.t) = flat (r.set j v)
  | [], _, _, h => by simp at h
  | x :: r, 0, v, _ => by rfl
  | x :: r, j + 1, v, h => by
    have ih := flat_set7 r j v (by simpa using h)
    rw [List.set_cons_succ, flat, flat, ← ih, show (j + 1) * 3 = j * 3 + 1 + 1 + 1 by omega, show j * 3 + 1 + 1 + 1 + 1 = (j * 3 + 1) + 1 + 1 + 1 by omega, show j * 3 + 1 + 1 + 1 + 2 = (j * 3 + 2) + 1 + 1 + 1 by omega]
    simp only [List.set_cons_succ]
/-- A value stored into a row that the call owns. -/
theorem row_set7 {base : Nat} {w : World} {g cap : Nat} {r : List V} (h : w.ownsRow base 56 3 (.slice (some ⟨g, 0, none⟩) r.length cap) r.length (flat r)) (j : Nat) (hj : j < r.length) (v : V) :
    (((w.setCell ⟨g, j * 3, none⟩ (.int .i64 v.k)).setCell ⟨g, j * 3 + 1, none⟩ (.int .i64 v.n)).setCell ⟨g, j * 3 + 2, none⟩ (.string v.t)).ownsRow base 56 3 (.slice (some ⟨g, 0, none⟩) r.length cap) r.length (flat (r.set j v)) ∧
    w.grownBy (((w.setCell ⟨g, j * 3, none⟩ (.int .i64 v.k)).setCell ⟨g, j * 3 + 1, none⟩ (.int .i64 v.n)).setCell ⟨g, j * 3 + 2, none⟩ (.string v.t)) (some g) := by
  have s1 := h.stored (j * 3) (.int .i64 v.k)
  have s2 := s1.1.stored (j * 3 + 1) (.int .i64 v.n)
  have s3 := s2.1.stored (j * 3 + 2) (.string v.t)
  rw [← flat_set7 r j v hj]
  exact ⟨s3.1, by_trans (by_trans s1.2 s2.2) s3.2⟩

end Go.Proofs.YtpmlhgakbpfgmaaDoor
/- The contracts of Key and of the reference's Key and KeyKinds. -/
set_option linter.unusedSimpArgs false
set_option linter.unusedVariables false
namespace Go.Proofs.YtpmlhgakbpfgmaaDoor
open Go.RowKit

/-- An append of a slice of another type of the same elements. -/
theorem run_append_two {w : World} (t u ty e e' : TypeId) (v x : Value) (i : TypeInfo) (ht : Tryd.prog.underlying t = some (.slice e)) (hu : Tryd.prog.underlying u = some (.slice e')) (hi : Tryd.prog.info? e = some i) :
    (Builtin.append_ #[t, u] ty #[v, x]).run Tryd.prog w = (Builtin.append_ #[t, t] ty #[v, x]).run Tryd.prog w := by
  cases v <;> simp [Builtin.append_, run_underlying ht, run_underlying hu, sizeOf, typeInfo, hi]
theorem wpList_append_own2 {w : World} {ops : Array Oper} {rest : List Oper} {o : Oper} {a : Act} {Q : Exit → Act → World → Prop} (hgd : o.guard = none) (s x : Operand) (t u : TypeId)
    (ho : o.op = .call { callee := .builtin .append, args := #[s, x], argTypes := #[t, u] })
    (base : Nat) (e e' : TypeId) (i : TypeInfo) (z : Value) (size bytes : Nat) (ht : Tryd.prog.underlying t = some (.slice e)) (hu : Tryd.prog.underlying u = some (.slice e')) (hi : Tryd.prog.info? e = some i) (hz : i.zero = some z)
    (hsize : i.size = size) (hby : i.bytes = bytes) (hzs : z.cells.size = size) (hsz : 0 < size)
    (v : Value) (n : Nat) (xs : List Value) (hs : a.eval s = v) (hown : w.ownsRow base e size v n xs)
    (ad : Addr) (m c : Nat) (news : List Value) (hx : a.eval x = .slice (some ad) m c) (hl : news.length = m * size) (hnews : ∀ j u, news[j]? = some u → w.cell? (ad.add j) = some u) (h1 : ∀ u ∈ news, u.oneCell' = true)
    (h63 : n + m ≤ maxLen) (hbytes : (n + m) * bytes ≤ 140737488355328) (hbase : base ≤ w.heap.size)
    (h : ∀ v' w', w'.ownsRow base e size v' (n + m) (xs ++ news) → w.grownBy w' v.ownBlock → (v' = .slice none 0 0 ↔ v = .slice none 0 0 ∧ m = 0) → wpList Tryd.prog ops Q rest (a.put o.dst v') w') : wpList Tryd.prog ops Q (o :: rest) a w := by
  refine wpList_plain hgd fun K hK => ?_
  obtain ⟨v', w', hr, h2, h3, h4⟩ := run_append_own (P := Tryd.prog) w base t o.type e i z size bytes ht hi hz hsize hby hzs hsz v n xs hown ad m c news hl hnews h1 h63 hbytes hbase
  rw [← run_append_two t u o.type e e' _ _ i ht hu hi] at hr
  unfold Oper.wp execOp
  simp only [ho, resolve, invoke, builtin, Sem.run_bind, Sem.run_pure, Result.andThen_ok, List.map_toArray, List.map_cons, List.map_nil, hs, hx, hr]
  exact hK _ _ (h v' w' h2 h3 h4)
theorem wpList_append_nil2 {w : World} {ops : Array Oper} {rest : List Oper} {o : Oper} {a : Act} {Q : Exit → Act → World → Prop} (hgd : o.guard = none) (s x : Operand) (t u : TypeId)
    (ho : o.op = .call { callee := .builtin .append, args := #[s, x], argTypes := #[t, u] })
    (e e' : TypeId) (i : TypeInfo) (ht : Tryd.prog.underlying t = some (.slice e)) (hu : Tryd.prog.underlying u = some (.slice e')) (hi : Tryd.prog.info? e = some i)
    (ad : Option Addr) (c : Nat) (hs : a.eval s = .slice none 0 0) (hx : a.eval x = .slice ad 0 c)
    (h : wpList Tryd.prog ops Q rest (a.put o.dst (.slice none 0 0)) w) : wpList Tryd.prog ops Q (o :: rest) a w := by
  refine wpList_plain hgd fun K hK => ?_
  have hrun := run_append_nil7 (w := w) t o.type e i ad c ht hi
  rw [← run_append_two t u o.type e e' _ _ i ht hu hi] at hrun
  unfold Oper.wp
  simp [execOp, ho, resolve, invoke, builtin, hs, hx, hrun, Result.andThen]
  exact hK _ _ h
theorem RowAt.take {w : World} {a : Option Addr} {n cap : Nat} {r : List V} (h : RowAt w (.slice a n cap) r) (m : Nat) (hm : m ≤ r.length) : RowAt w (.slice a m cap) (r.take m) := by
  obtain ⟨a1, cap1, hv, h1, h3⟩ := h
  simp only [Value.slice.injEq] at hv
  obtain ⟨rfl, -, rfl⟩ := hv
  have hl : (r.take m).length = m := by rw [List.length_take]; omega
  refine ⟨a, cap, by rw [hl], by omega, ?_⟩
  rcases h3 with rfl | ⟨b, off, k1, k2⟩
  · left; simp
  · right; refine ⟨b, off, k1, k2.blk, fun i hi => ?_⟩
    have := k2.at_ i (by rw [hl] at hi; omega)
    simpa using this
/-- The key of a row. -/
def keyS (ts : List Tab) (i : Int) (r : List V) : List V := if inTabs ts i = true then r.take (keyOf (tabOf ts i).key r.length) else []
def RowOut7 (r : List V) (w : World) (e : Ending) (w' : World) : Prop := ∃ v, e = .returned v ∧ RowAt w' v r ∧ Below w.heap.size w w'
set_option maxHeartbeats 4000000 in
set_option maxRecDepth 100000 in
theorem sKey_calls (full : Bool) (k : Nat) (T S : Nat → Prop) (ver : Int) (v : Value) (ts : List Tab) (i : Int) (ra0 : Option Addr) (rc0 : Nat) (r : List V) (w : World) (hp : TabsAt full k T S w v ts) (hr : RowAt w (.slice ra0 r.length rc0) r) (hcap : r.length ≤ rc0) :
    Calls Tryd.prog 14 #[.agg #[.int .i64 ver, v], .int .i64 i, .slice ra0 r.length rc0] w (RowOut7 (keyS ts i r) w) := by
  obtain ⟨W, hW⟩ : ∃ W, W = w.alloc (.cells #[.int .i64 ver, v] 25) := ⟨_, rfl⟩
  have hg : Gro w W := by rw [hW]; exact (Gro.refl w).alloc _
  have HF := Lib.hid (find_calls full k T S ver v ts i W (hp.later hg.below))
  have HG := Lib.hid hg
  have HW := Lib.hid hW
  obtain ⟨a, cap, rfl, hl⟩ := hp.slice
  obtain ⟨inf, hinf, hz, hsz, hby⟩ := info_parts info24
  have HINF := Lib.hid (And.intro hinf (And.intro hz (And.intro hsz hby)))
  have HR := Lib.hid (hr.later hg.below)
  obtain ⟨-, -, -, hrl, -⟩ := hr
  clear hp hg hW hinf hz hsz hby
  obtain ⟨N, hN⟩ : ∃ N, r.length = N := ⟨_, rfl⟩
  rw [hN] at HR hcap hrl ⊢
  have HN := Lib.hid hN
  clear hN
  go_enter Tryd.func14, Tryd.ntmps14
  go_wp2_with fail
  rw [← HW.out]
  refine HF.out.mono ?_
  rintro e w2 ⟨ca, cc, ra, rn, rc, ka, kn, kc, rfl, hv, hg2⟩
  have HG2 := Lib.hid (HG.out.trans hg2)
  have HR2 := Lib.hid (HR.out.later hg2.below)
  obtain ⟨t, ht⟩ : ∃ t, tabOf ts i = t := ⟨_, rfl⟩
  have HT := Lib.hid ht
  rw [ht] at hv ⊢
  have hFI := fun w' => firstVal_calls ra0 N rc0 t.key w' hcap (by omega)
  have HM : Hid (keyOf t.key N ≤ N) := by show _ ≤ _; unfold keyOf; omega
  obtain ⟨m, hm⟩ : ∃ m, keyOf t.key N = m := ⟨_, rfl⟩
  rw [hm] at HM hFI
  have HMM := Lib.hid hm
  have HFI := Lib.hid hFI
  clear hm hFI hv hg2 HF
  cases hin : inTabs ts i with
  | false =>
    have HE : Hid (keyS ts i r = []) := by show _ = _; unfold keyS; rw [hin]; rfl
    go_wp2_with fail
    go_ret
    exact ⟨_, rfl, by rw [HE.out]; exact ⟨none, 0, rfl, by simp, .inl rfl⟩, (HG2.out.alloc _).below⟩
  | true =>
    have HE : Hid (keyS ts i r = r.take m) := by show _ = _; unfold keyS; rw [hin, HT.out, HN.out, HMM.out]; rfl
    clear hin ht
    go_wp2_with fail
    refine (HFI.out _).mono ?_
    rintro e w2' ⟨rfl, rfl⟩
    have HR3 : Hid (RowAt (w2.alloc (tObj t.name ca t.cols.length cc t.key ra rn rc ka kn kc)) (.slice ra0 m rc0) (r.take m)) := (HR2.out.later ((Gro.refl w2).alloc _).below).take m (by have := HM.out; have := HN.out; omega)
    obtain ⟨W3, hW3⟩ : ∃ W3, W3 = w2.alloc (tObj t.name ca t.cols.length cc t.key ra rn rc ka kn kc) := ⟨_, rfl⟩
    rw [← hW3] at HR3
    have HG3 : Hid (Gro w W3) := by show Gro _ _; rw [hW3]; exact HG2.out.alloc _
    have hW3' := hW3
    simp only [tObj] at hW3'
    rw [← hW3']
    obtain ⟨r', hr'⟩ : ∃ r', r.take m = r' := ⟨_, rfl⟩
    have hrl' : r'.length = m := by rw [← hr', List.length_take]; have := HM.out; have := HN.out; omega
    rw [hr'] at HE HR3
    clear hW3 hW3' hr'
    by_cases h0 : r' = []
    · subst h0
      obtain rfl : m = 0 := by simpa using hrl'.symm
      go_wp2_with (at_builtin; go_must (refine wpList_append_nil2 rfl _ _ 27 26 rfl 56 56 inf Tryd.underlying27 Tryd.underlying26 HINF.out.1 ra0 rc0 rfl rfl ?_))
      go_wp2_with fail
      go_ret
      exact ⟨_, rfl, by rw [HE.out]; exact ⟨none, 0, rfl, by simp, .inl rfl⟩, HG3.out.below⟩
    · obtain ⟨pa, pc, hv, hml, hb⟩ := HR3.out
      simp only [Value.slice.injEq] at hv
      obtain ⟨rfl, -, rfl⟩ := hv
      obtain ⟨b, off, rfl, hbb⟩ := hb.resolve_left h0
      have HL := Lib.hid (flat_length r')
      have H1 := Lib.hid (flat_one r')
      have HC := Lib.hid (flat_cells r' off hbb.at_)
      have HNN := Lib.hid (World.ownsRow_nil W3 W3.heap.size 56 3)
      have hm4 : m ≤ 4398046511104 := by omega
      clear hb hbb h0
      go_wp2_with (at_builtin; go_must (refine wpList_append_own2 rfl _ _ 27 26 rfl W3.heap.size 56 56 inf (V.val ⟨0, 0, ⟨#[]⟩⟩) 3 32 Tryd.underlying27 Tryd.underlying26 HINF.out.1 HINF.out.2.1 HINF.out.2.2.1 HINF.out.2.2.2 rfl (by decide) _ 0 [] rfl HNN.out ⟨b, off, none⟩ m rc0 (flat r') rfl (by rw [HL.out, hrl']) ?c1 H1.out ?c3 ?c4 ?c5 ?_))
      case c1 => intro j u hj; have := HC.out j u hj; unfold Addr.add; split <;> simp_all
      case c3 => unfold maxLen; omega
      case c4 => omega
      case c5 => omega
      intro v' w7 hown' hgrow hnil
      have HOW : Hid (RowAt w7 v' r') := by
        have h : w7.ownsRow W3.heap.size 56 3 v' r'.length (flat r') := by simpa [hrl'] using hown'
        exact RowAt.of_owned h (by omega)
      have HB7 : Hid (Below w.heap.size w w7) := HG3.out.below.grown hgrow (HG3.out.size) (fun k hk => by simp [Value.ownBlock] at hk)
      clear hown' hgrow hnil
      go_wp2_with fail
      go_ret
      exact ⟨_, rfl, by rw [HE.out]; exact HOW.out, HB7.out⟩
end Go.Proofs.YtpmlhgakbpfgmaaDoor
/- The contracts of the reference's Key and KeyKinds. -/
set_option linter.unusedSimpArgs false
set_option linter.unusedVariables false
namespace Go.Proofs.YtpmlhgakbpfgmaaDoor
open Go.RowKit

set_option maxHeartbeats 4000000 in
set_option maxRecDepth 100000 in
theorem refKey_calls (full : Bool) (k : Nat) (T S : Nat → Prop) (ver : Int) (v : Value) (ts : List Tab) (i : Int) (ra0 : Option Addr) (rc0 : Nat) (r : List V) (w : World) (hp : TabsAt full k T S w v ts) (hr : RowAt w (.slice ra0 r.length rc0) r) (hcap : r.length ≤ rc0) :
    Calls Tryd.prog 15 #[.agg #[.int .i64 ver, v], .int .i64 i, .slice ra0 r.length rc0] w (RowOut7 (keyS ts i r) w) := by
  obtain ⟨a, cap, rfl, hl⟩ := hp.slice
  obtain ⟨W, hW⟩ : ∃ W, W = w.alloc (.cells #[.int .i64 ver, .slice a ts.length cap] 25) := ⟨_, rfl⟩
  have hg : Below w.heap.size w W := by rw [hW]; exact (Below.refl _ _).alloc (Nat.le_refl _) _
  have HSB : Hid (SBox W w.heap.size ver a ts.length cap) := by rw [hW]; exact SBox.new _ _ _ _ _ _
  have HTS := Lib.hid (hp.later hg)
  have HR := Lib.hid (hr.later hg)
  obtain ⟨-, -, -, hrl, -⟩ := hr
  have HG := Lib.hid hg
  have HW := Lib.hid hW
  obtain ⟨L, hL⟩ : ∃ L, ts.length = L := ⟨_, rfl⟩
  rw [hL] at HSB HTS HW hl ⊢
  have HL := Lib.hid hL
  obtain ⟨N, hN⟩ : ∃ N, r.length = N := ⟨_, rfl⟩
  rw [hN] at HR hcap hrl ⊢
  have HN := Lib.hid hN
  clear hp hg hW hL hN
  by_cases hi0 : i < 0
  · have HE : Hid (keyS ts i r = []) := by show _ = _; unfold keyS inTabs; rw [decide_eq_false (by omega)]; rfl
    have hd : decide (i < 0) = true := by simpa using hi0
    go_enter Tryd.func15, Tryd.ntmps15
    go_wp2
    go_ret
    rw [← HW.out, HE.out]
    exact ⟨_, rfl, ⟨none, 0, rfl, by simp, .inl rfl⟩, HG.out⟩
  obtain ⟨n, rfl⟩ : ∃ n : Nat, i = n := ⟨i.toNat, by omega⟩
  by_cases hiL : L ≤ n
  · have HE : Hid (keyS ts n r = []) := by have := HL.out; show _ = _; unfold keyS inTabs; rw [decide_eq_false (p := (n : Int) < _) (by omega), Bool.and_false]; rfl
    have hd : decide ((L : Int) ≤ (n : Int)) = true := by simp; omega
    go_enter Tryd.func15, Tryd.ntmps15
    go_wp2
    go_ret
    rw [← HW.out, HE.out]
    exact ⟨_, rfl, ⟨none, 0, rfl, by simp, .inl rfl⟩, HG.out⟩
  have hdL : decide ((L : Int) ≤ (n : Int)) = false := by simp; omega
  have hnL : (n : Int) < (L : Int) := by omega
  have hn0 : (0 : Int) ≤ (n : Int) := by omega
  have hn : n < ts.length := by have := HL.out; omega
  obtain ⟨b, off, rfl, hb, -, ca, cc, ra, rn, rc, ka, kn, kc, hcell, hv⟩ := HTS.out.get hn
  have c2 := hcell.key
  obtain ⟨key, hkey⟩ : ∃ key, ts[n].key = key := ⟨_, rfl⟩
  rw [hkey] at c2
  have HE : Hid (keyS ts n r = r.take (keyOf key N)) := by
    show _ = _
    unfold keyS
    rw [tabOf_nat hn, hkey, HN.out]
    unfold inTabs
    rw [decide_eq_true hn0, decide_eq_true (by have := HL.out; omega)]; rfl
  have HCP : Hid (Calls Tryd.prog 29 #[.slice ra0 (keyOf key N) rc0] W fun e w' => ∃ v, e = .returned v ∧ RowAt w' v (r.take (keyOf key N)) ∧ Below W.heap.size W w') :=
    (rowCopy_calls _ _ W (HR.out.take (keyOf key N) (by unfold keyOf; have := HN.out; omega))).mono fun e w' ⟨v, h1, h2, h3⟩ => ⟨v, h1, RowAt.of_owned h2 (by rw [List.length_take]; have := HN.out; omega), h3⟩
  have HCM : Hid (∀ m, m = keyOf key N → Calls Tryd.prog 29 #[.slice ra0 m rc0] W fun e w' => ∃ v, e = .returned v ∧ RowAt w' v (r.take (keyOf key N)) ∧ Below W.heap.size W w') := fun m hm => by subst hm; exact HCP.out
  obtain ⟨sl, s0, s1⟩ := HSB.out
  clear hv hcell hkey HCP
  go_enter Tryd.func15, Tryd.ntmps15
  go_upto_region 1 with fail
  rw [← HW.out]
  go_wp2_with fail
  all_goals
    refine (HCM.out _ ?_).mono ?_
    · unfold keyOf
      first
      | (have h1 := ‹0 < if (N : Int) < key then (N : Int) else key›; split at h1 <;> omega)
      | (have h1 := ‹(if (N : Int) < key then (N : Int) else key) ≤ 0›; split at h1 <;> omega)
    rintro e w2 ⟨v, rfl, hv, hb2⟩
    have HF := Lib.hid (And.intro hv (HG.out.trans (hb2.mono HG.out.size)))
    clear hv hb2
    go_wp2_with fail
    go_ret
    exact ⟨_, rfl, by rw [HE.out]; exact HF.out.1, HF.out.2⟩
set_option maxHeartbeats 4000000 in
set_option maxRecDepth 100000 in
/-- Kinds of no table. -/
theorem refKinds_out (full : Bool) (k : Nat) (T S : Nat → Prop) (ver : Int) (v : Value) (ts : List Tab) (i : Int) (w : World) (hp : TabsAt full k T S w v ts) (hin : inTabs ts i = false) :
    Calls Tryd.prog 10 #[.agg #[.int .i64 ver, v], .int .i64 i] w fun e w' => e = .returned (.slice none 0 0) ∧ Below w.heap.size w w' := by
  obtain ⟨a, cap, rfl, hl⟩ := hp.slice
  obtain ⟨W, hW⟩ : ∃ W, W = w.alloc (.cells #[.int .i64 ver, .slice a ts.length cap] 25) := ⟨_, rfl⟩
  have hg : Below w.heap.size w W := by rw [hW]; exact (Below.refl _ _).alloc (Nat.le_refl _) _
  have HSB : Hid (SBox W w.heap.size ver a ts.length cap) := by rw [hW]; exact SBox.new _ _ _ _ _ _
  have HG := Lib.hid hg
  have HW := Lib.hid hW
  obtain ⟨L, hL⟩ : ∃ L, ts.length = L := ⟨_, rfl⟩
  rw [hL] at HSB HW hl ⊢
  unfold inTabs at hin
  rw [hL, Bool.and_eq_false_iff, decide_eq_false_iff_not, decide_eq_false_iff_not] at hin
  clear hp hg hW hL
  by_cases hi0 : i < 0
  · have hd : decide (i < 0) = true := by simpa using hi0
    go_enter Tryd.func10, Tryd.ntmps10
    go_wp2
    go_ret
    rw [← HW.out]
    exact ⟨rfl, HG.out⟩
  obtain ⟨n, rfl⟩ : ∃ n : Nat, i = n := ⟨i.toNat, by omega⟩
  have hiL : L ≤ n := by omega
  have hd : decide ((L : Int) ≤ (n : Int)) = true := by simp; omega
  go_enter Tryd.func10, Tryd.ntmps10
  go_wp2
  go_ret
  rw [← HW.out]
  exact ⟨rfl, HG.out⟩
theorem IntsAt.take7 {S : Nat → Prop} {w : World} {a : Option Addr} {n cap : Nat} {l : List Int} (h : IntsAt S w (.slice a n cap) l) (m : Nat) (hm : m ≤ l.length) : IntsAt S w (.slice a m cap) (l.take m) := by
  obtain ⟨a1, cap1, hv, h1, h3⟩ := h
  simp only [Value.slice.injEq] at hv
  obtain ⟨rfl, -, rfl⟩ := hv
  have hl : (l.take m).length = m := by rw [List.length_take]; omega
  refine ⟨a, cap, by rw [hl], by omega, ?_⟩
  rcases h3 with rfl | ⟨b, off, k1, k2, k3, k4⟩
  · left; simp
  · right; refine ⟨b, off, k1, k2, k3, fun i hi => ?_⟩
    have := k4 i (by rw [hl] at hi; omega)
    simpa using this
/-- Numbers that the call has made. -/
theorem own_cap7 {w : World} {base : Nat} {v : Value} {l : List Int} (h : OwnN w base v l) : ∃ a c, v = .slice a l.length c ∧ l.length ≤ c := by
  obtain ⟨-, ⟨rfl, hn⟩ | ⟨g, cap, cur, rfl, -, -, hc, -⟩⟩ := h
  · exact ⟨none, 0, by rw [hn], by omega⟩
  · exact ⟨_, cap, rfl, hc⟩
set_option maxHeartbeats 4000000 in
set_option maxRecDepth 100000 in
theorem refKeyKinds_new (full : Bool) (k : Nat) (T S : Nat → Prop) (ver : Int) (v : Value) (ts : List Tab) (i : Int) (w : World) (hp : TabsAt full k T S w v ts) :
    Calls Tryd.prog 12 #[.agg #[.int .i64 ver, v], .int .i64 i] w (IntsNewB (keyKindsS ts i) w) := by
  have hkl := kindsS_le hp i
  obtain ⟨a, cap, rfl, hl⟩ := hp.slice
  obtain ⟨W, hW⟩ : ∃ W, W = w.alloc (.cells #[.int .i64 ver, .slice a ts.length cap] 25) := ⟨_, rfl⟩
  have hg : Below w.heap.size w W := by rw [hW]; exact (Below.refl _ _).alloc (Nat.le_refl _) _
  have HSB : Hid (SBox W w.heap.size ver a ts.length cap) := by rw [hW]; exact SBox.new _ _ _ _ _ _
  have HTS := Lib.hid (hp.later hg)
  have HG := Lib.hid hg
  have HW := Lib.hid hW
  obtain ⟨L, hL⟩ : ∃ L, ts.length = L := ⟨_, rfl⟩
  rw [hL] at HSB HTS HW hl ⊢
  have HL := Lib.hid hL
  clear hp hg hW hL
  have qT : ∀ (w : World) (a : Option Addr) (n c : Nat), (binOp .eql 34 (.slice a n c) (.slice none 0 0)).run Tryd.prog w = .ok (.bool a.isNone) w := fun w a n c => Lib.run_eql_slice_nil w _ _ a n c _ _ Tryd.underlying34
  obtain ⟨sl, s0, s1⟩ := HSB.out
  cases hin : inTabs ts i with
  | false =>
    have HE : Hid (keyKindsS ts i = []) := keyKindsS_out hin
    have HK := Lib.hid (refKinds_out full k T S ver _ ts i W HTS.out hin)
    clear hin
    go_enter Tryd.func12, Tryd.ntmps12
    go_upto_region 1 with fail
    rw [← HW.out]
    go_wp2_with fail
    refine HK.out.mono ?_
    rintro e w2 ⟨rfl, hb2⟩
    have HF := Lib.hid (HG.out.trans (hb2.mono HG.out.size))
    clear hb2
    go_wp2_with fail
    go_ret
    exact ⟨_, rfl, by rw [HE.out]; exact IntsAt.nil _ _, HF.out⟩
  | true =>
    obtain ⟨n, rfl, hn⟩ := inTabs_nat hin
    have hnL : (n : Int) < (L : Int) := by have := HL.out; omega
    have hn0 : (0 : Int) ≤ (n : Int) := by omega
    have HK := Lib.hid (refKinds_calls full k T S ver _ ts n W HTS.out)
    go_enter Tryd.func12, Tryd.ntmps12
    go_upto_region 1 with fail
    rw [← HW.out]
    go_wp2_with fail
    refine HK.out.mono ?_
    rintro e w2 ⟨vk, rfl, ho2, hb2⟩
    obtain ⟨ka2, kc2, rfl, hkc⟩ := own_cap7 ho2
    have hia : IntsAt (fun g => W.heap.size ≤ g) w2 (.slice ka2 (kindsS ts n).length kc2) (kindsS ts n) := ho2.ints4 hkl (fun _ h => h)
    have HB2 := Lib.hid (HG.out.trans (hb2.mono HG.out.size))
    obtain ⟨b, off, rfl, hb, -, ca, cc, ra, rn, rc, ka, kn, kc, hcell, hv⟩ := (HTS.out.later hb2).get hn
    have c2 := hcell.key
    obtain ⟨key, hkey⟩ : ∃ key, ts[n].key = key := ⟨_, rfl⟩
    rw [hkey] at c2
    have hcl : (kindsS ts n).length = ts[n].cols.length := by unfold kindsS kindsT; rw [tabOf_nat hn, List.length_map]
    have HE : Hid (keyKindsS ts n = (kindsS ts n).take (keyOf key (kindsS ts n).length)) := by
      show _ = _
      unfold keyKindsS
      rw [tabOf_nat hn, hkey, hcl]
    obtain ⟨K, hK⟩ : ∃ K, kindsS ts n = K := ⟨_, rfl⟩
    rw [hK] at hia HE hkl hkc ⊢
    obtain ⟨N, hN⟩ : ∃ N, K.length = N := ⟨_, rfl⟩
    rw [hN] at hia HE hkl hkc ⊢
    have HIA := Lib.hid hia
    have HN := Lib.hid hN
    obtain ⟨sl, s0, s1⟩ := HSB.out.later hb2
    have HWS : Hid (w.heap.size ≤ W.heap.size) := HG.out.size
    clear hin hv hcell hkey hcl hK hN ho2 hia hb2 hn
    have HFA : Hid (∀ m, m = keyOf key N → IntsAt (fun g => w.heap.size ≤ g) w2 (.slice ka2 m kc2) (K.take (keyOf key N))) := fun m hm => by
      subst hm
      exact (HIA.out.take7 _ (by unfold keyOf; have := HN.out; omega)).mono fun g _ h => Nat.le_trans HWS.out h
    have hN0 : 0 ≤ N := Nat.zero_le _
    have HNIL : Hid (ka2 = none → K = []) := fun e => by
      obtain ⟨a1, c1, hv, -, h3⟩ := HIA.out
      simp only [Value.slice.injEq] at hv
      rcases h3 with h | ⟨b', off', h, -⟩
      · exact h
      · rw [← hv.1, e] at h; cases h
    cases ka2 with
    | none =>
      have HE0 : Hid (keyKindsS ts n = []) := by show _ = _; rw [HE.out, HNIL.out rfl, List.take_nil]
      clear s0 s1
      go_wp2
      all_goals
        go_ret
        exact ⟨_, rfl, by rw [HE0.out]; exact IntsAt.nil _ _, HB2.out⟩
    | some ad =>
      go_wp2
      all_goals
        go_ret
        refine ⟨_, rfl, ?_, HB2.out⟩
        rw [HE.out]
        refine HFA.out _ ?_
        unfold keyOf
        first
        | (have h1 := ‹0 < if (N : Int) < key then (N : Int) else key›; split at h1 <;> omega)
        | (have h1 := ‹(if (N : Int) < key then (N : Int) else key) ≤ 0›; split at h1 <;> omega)
end Go.Proofs.YtpmlhgakbpfgmaaDoor
/- A list of tables that the call owns. -/
set_option linter.unusedSimpArgs false
set_option linter.unusedVariables false
namespace Go.Proofs.YtpmlhgakbpfgmaaDoor
open Go.RowKit

theorem infoTab8 : (Tryd.prog.info? 52).map (fun i => (i.zero, i.size, i.bytes)) = some (some (.agg #[.string ⟨#[]⟩, .slice none 0 0, .int .i64 0, .slice none 0 0, .slice none 0 0]), 5, 96) := by kernel_rfl
theorem info_parts5 {t : TypeId} {z : Value} (h : (Tryd.prog.info? t).map (fun i => (i.zero, i.size, i.bytes)) = some (some z, 5, 96)) : ∃ i, Tryd.prog.info? t = some i ∧ i.zero = some z ∧ i.size = 5 ∧ i.bytes = 96 := by
  obtain ⟨i, h1, h2⟩ := Option.map_eq_some_iff.1 h
  simp only [Prod.mk.injEq] at h2
  exact ⟨i, h1, h2.1, h2.2.1, h2.2.2⟩
/-- The five values at i say this table. -/
structure TabX (xs : List Value) (i : Nat) (t : Tab) (ca : Option Addr) (cc : Nat) (ra : Option Addr) (rn rc : Nat) (ka : Option Addr) (kn kc : Nat) : Prop where
  name : xs[i * 5]? = some (.string t.name)
  cols : xs[i * 5 + 1]? = some (.slice ca t.cols.length cc)
  key : xs[i * 5 + 2]? = some (.int .i64 t.key)
  refs : xs[i * 5 + 3]? = some (.slice ra rn rc)
  checks : xs[i * 5 + 4]? = some (.slice ka kn kc)
/-- The values xs say these tables, whose slices lie in blocks of S. -/
def TabsX (full : Bool) (k : Nat) (S : Nat → Prop) (w : World) (xs : List Value) (L : List Tab) : Prop :=
  xs.length = L.length * 5 ∧ ∀ i (h : i < L.length), ∃ (ca : Option Addr) (cc : Nat) (ra : Option Addr) (rn rc : Nat) (ka : Option Addr) (kn kc : Nat), TabX xs i L[i] ca cc ra rn rc ka kn kc ∧ TabV full k S w L[i] ca cc ra rn rc ka kn kc
theorem TabsX.later {full : Bool} {k : Nat} {S : Nat → Prop} {w w' : World} {xs : List Value} {L : List Tab} (h : TabsX full k S w xs L) (hw : Below w.heap.size w w') : TabsX full k S w' xs L :=
  ⟨h.1, fun i hi => let ⟨ca, cc, ra, rn, rc, ka, kn, kc, c, v⟩ := h.2 i hi; ⟨ca, cc, ra, rn, rc, ka, kn, kc, c, v.later hw⟩⟩
theorem TabsX.mono {full : Bool} {k : Nat} {S S' : Nat → Prop} {w : World} {xs : List Value} {L : List Tab} (h : TabsX full k S w xs L) (hs : ∀ b, b < w.heap.size → S b → S' b) : TabsX full k S' w xs L :=
  ⟨h.1, fun i hi => let ⟨ca, cc, ra, rn, rc, ka, kn, kc, c, v⟩ := h.2 i hi; ⟨ca, cc, ra, rn, rc, ka, kn, kc, c, v.mono hs⟩⟩
theorem TabsX.snoc {full : Bool} {k : Nat} {S : Nat → Prop} {w : World} {xs : List Value} {L : List Tab} (h : TabsX full k S w xs L) (t : Tab) {ca : Option Addr} {cc : Nat} {ra : Option Addr} {rn rc : Nat} {ka : Option Addr} {kn kc : Nat} (hv : TabV full k S w t ca cc ra rn rc ka kn kc) :
    TabsX full k S w (xs ++ [.string t.name, .slice ca t.cols.length cc, .int .i64 t.key, .slice ra rn rc, .slice ka kn kc]) (L ++ [t]) := by
  obtain ⟨hl, h⟩ := h
  refine ⟨by simp [hl]; omega, fun i hi => ?_⟩
  by_cases hc : i < L.length
  · obtain ⟨ca, cc, ra, rn, rc, ka, kn, kc, c, v⟩ := h i hc
    refine ⟨ca, cc, ra, rn, rc, ka, kn, kc, ?_, by rw [List.getElem_append_left hc]; exact v⟩
    rw [List.getElem_append_left hc]
    exact ⟨by rw [List.getElem?_append_left (by omega)]; exact c.name, by rw [List.getElem?_append_left (by omega)]; exact c.cols, by rw [List.getElem?_append_left (by omega)]; exact c.key, by rw [List.getElem?_append_left (by omega)]; exact c.refs, by rw [List.getElem?_append_left (by omega)]; exact c.checks⟩
  · obtain rfl : i = L.length := by simp at hi; omega
    refine ⟨ca, cc, ra, rn, rc, ka, kn, kc, ?_, by simpa using hv⟩
    have e : (L ++ [t])[L.length]'hi = t := by simp
    rw [e]
    refine ⟨?_, ?_, ?_, ?_, ?_⟩
    · rw [List.getElem?_append_right (by omega), hl, show L.length * 5 - L.length * 5 = 0 by omega]; rfl
    · rw [List.getElem?_append_right (by omega), hl, show L.length * 5 + 1 - L.length * 5 = 1 by omega]; rfl
    · rw [List.getElem?_append_right (by omega), hl, show L.length * 5 + 2 - L.length * 5 = 2 by omega]; rfl
    · rw [List.getElem?_append_right (by omega), hl, show L.length * 5 + 3 - L.length * 5 = 3 by omega]; rfl
    · rw [List.getElem?_append_right (by omega), hl, show L.length * 5 + 4 - L.length * 5 = 4 by omega]; rfl
theorem TabsX.one {full : Bool} {k : Nat} {S : Nat → Prop} {w : World} {xs : List Value} {L : List Tab} (h : TabsX full k S w xs L) : ∀ u ∈ xs, u.oneCell' = true := by
  intro u hu
  obtain ⟨j, hj, rfl⟩ := List.getElem_of_mem hu
  have hl := h.1
  obtain ⟨ca, cc, ra, rn, rc, ka, kn, kc, c, -⟩ := h.2 (j / 5) (by omega)
  have hq : j = j / 5 * 5 ∨ j = j / 5 * 5 + 1 ∨ j = j / 5 * 5 + 2 ∨ j = j / 5 * 5 + 3 ∨ j = j / 5 * 5 + 4 := by omega
  have hs : xs[j]? = some xs[j] := List.getElem?_eq_getElem hj
  generalize xs[j] = x at hs
  obtain ⟨t, ht⟩ : ∃ t, L[j / 5]'(by omega) = t := ⟨_, rfl⟩
  rw [ht] at c
  clear ht
  generalize j / 5 = i at c hq
  rcases hq with e | e | e | e | e
  · rw [e, c.name] at hs; cases hs; rfl
  · rw [e, c.cols] at hs; cases hs; rfl
  · rw [e, c.key] at hs; cases hs; rfl
  · rw [e, c.refs] at hs; cases hs; rfl
  · rw [e, c.checks] at hs; cases hs; rfl
/-- The values of the tables in memory. -/
def tnews (w : World) (tb m : Nat) : List Value := (List.range m).map fun j => (w.cell? ⟨tb, j, none⟩).getD .nilIface
theorem tnews_at {w : World} {tb m j : Nat} {u : Value} (h : w.cell? ⟨tb, j, none⟩ = some u) (hj : j < m) : (tnews w tb m)[j]? = some u := by
  unfold tnews
  rw [List.getElem?_map, List.getElem?_range hj]
  simp [h]
theorem tnews_x {full : Bool} {k : Nat} {T S : Nat → Prop} {w : World} {tb n cap : Nat} {L : List Tab} (h : TabsAt full k T S w (.slice (some ⟨tb, 0, none⟩) n cap) L) (hn : L.length = n) : TabsX full k S w (tnews w tb (n * 5)) L := by
  refine ⟨by unfold tnews; simp [hn], fun i hi => ?_⟩
  obtain ⟨b, off, hb, -, -, ca, cc, ra, rn, rc, ka, kn, kc, c, v⟩ := h.get hi
  simp only [Option.some.injEq, Addr.mk.injEq, and_true] at hb
  obtain ⟨rfl, rfl⟩ := hb
  obtain ⟨c0, c1, c2, c3, c4⟩ := c
  simp only [Nat.zero_add] at c0 c1 c2 c3 c4
  exact ⟨ca, cc, ra, rn, rc, ka, kn, kc, ⟨tnews_at c0 (by omega), tnews_at c1 (by omega), tnews_at c2 (by omega), tnews_at c3 (by omega), tnews_at c4 (by omega)⟩, v⟩
theorem tnews_cell {full : Bool} {k : Nat} {T S : Nat → Prop} {w : World} {tb n cap : Nat} {L : List Tab} (h : TabsAt full k T S w (.slice (some ⟨tb, 0, none⟩) n cap) L) (hn : L.length = n) :
    ∀ j u, (tnews w tb (n * 5))[j]? = some u → w.cell? ((⟨tb, 0, none⟩ : Addr).add j) = some u := by
  intro j u hj
  have hjl : j < n * 5 := by
    have := (List.getElem?_eq_some_iff.1 hj).1
    unfold tnews at this; simpa using this
  obtain ⟨b, off, hb, -, -, ca, cc, ra, rn, rc, ka, kn, kc, c, v⟩ := h.get (i := j / 5) (by omega)
  simp only [Option.some.injEq, Addr.mk.injEq, and_true] at hb
  obtain ⟨rfl, rfl⟩ := hb
  obtain ⟨c0, c1, c2, c3, c4⟩ := c
  simp only [Nat.zero_add] at c0 c1 c2 c3 c4
  have hc : ∃ x, w.cell? ⟨tb, j, none⟩ = some x := by
    have hq : j = j / 5 * 5 ∨ j = j / 5 * 5 + 1 ∨ j = j / 5 * 5 + 2 ∨ j = j / 5 * 5 + 3 ∨ j = j / 5 * 5 + 4 := by omega
    clear v
    obtain ⟨t, ht⟩ : ∃ t, L[j / 5]'(by omega) = t := ⟨_, rfl⟩
    rw [ht] at c0 c1 c2
    clear ht
    generalize j / 5 = i at c0 c1 c2 c3 c4 hq
    rcases hq with e | e | e | e | e
    · exact ⟨_, e ▸ c0⟩
    · exact ⟨_, e ▸ c1⟩
    · exact ⟨_, e ▸ c2⟩
    · exact ⟨_, e ▸ c3⟩
    · exact ⟨_, e ▸ c4⟩
  obtain ⟨x, hx⟩ := hc
  rw [tnews_at hx hjl] at hj
  cases hj
  have : (⟨tb, 0, none⟩ : Addr).add j = ⟨tb, j, none⟩ := by unfold Addr.add; split <;> simp_all
  rw [this]; exact hx
/-- Tables in a slice that the call owns. -/
theorem tabs_own {full : Bool} {k : Nat} {S : Nat → Prop} {base : Nat} {w : World} {v : Value} {xs : List Value} {L : List Tab} (ho : w.ownsRow base 52 5 v L.length xs) (h : TabsX full k S w xs L) (hl : L.length ≤ 17592186044416) : TabsAt full k (fun g => base ≤ g) S w v L := by
  have ho' := ho
  obtain ⟨hx, hv | ⟨g, cap, cur, hv, hg, hh, hcap, hm, hs, ht⟩⟩ := ho
  · obtain ⟨rfl, hn⟩ := hv
    obtain rfl : L = [] := List.eq_nil_of_length_eq_zero hn
    exact ⟨none, 0, rfl, by simp, .inl rfl⟩
  · subst hv
    refine ⟨some ⟨g, 0, none⟩, cap, rfl, hl, .inr ⟨g, 0, rfl, (Array.getElem?_eq_some_iff.1 hh).1, hg, fun i hi => ?_⟩⟩
    obtain ⟨ca, cc, ra, rn, rc, ka, kn, kc, c, v⟩ := h.2 i hi
    refine ⟨ca, cc, ra, rn, rc, ka, kn, kc, ⟨?_, ?_, ?_, ?_, ?_⟩, v⟩
    · rw [Nat.zero_add, ho'.cellAt _ (by omega)]; exact c.name
    · rw [Nat.zero_add, ho'.cellAt _ (by omega)]; exact c.cols
    · rw [Nat.zero_add, ho'.cellAt _ (by omega)]; exact c.key
    · rw [Nat.zero_add, ho'.cellAt _ (by omega)]; exact c.refs
    · rw [Nat.zero_add, ho'.cellAt _ (by omega)]; exact c.checks
/-- The slices of a table of one column that has just been laid. -/
theorem tabv_new (w : World) (x : Col) (t : Tab) (ht : t.cols = [x] ∧ t.refs = [] ∧ t.checks = []) (X : TypeId) {S : Nat → Prop} (hS : S w.heap.size) : TabV true 3 S (w.alloc (.cells #[.string x.n, .int .i64 x.k] X)) t (some ⟨w.heap.size, 0, none⟩) 1 none 0 0 none 0 0 := by
  obtain ⟨h1, h2, h3⟩ := ht
  refine ⟨?_, fun _ => ?_, fun _ => ?_⟩
  · rw [h1]; exact (cols_new1 w x X).mono fun g _ e => e ▸ hS
  · rw [h2]; exact RefsAt.nil none 0
  · rw [h3]; exact PrIn.nil 3 none 0

theorem TabsX.kept {full : Bool} {k : Nat} {S : Nat → Prop} {w w' : World} {xs : List Value} {L : List Tab} (h : TabsX full k S w xs L) (hw : Kept S w w') : TabsX full k S w' xs L :=
  ⟨h.1, fun i hi => let ⟨ca, cc, ra, rn, rc, ka, kn, kc, c, v⟩ := h.2 i hi; ⟨ca, cc, ra, rn, rc, ka, kn, kc, c, v.kept hw⟩⟩
/-- One table is changed. -/
theorem TabsX.put {full : Bool} {k : Nat} {S : Nat → Prop} {w : World} {xs xs' : List Value} {L : List Tab} (h : TabsX full k S w xs L) {i : Nat} (hi : i < L.length) (t : Tab) {ca : Option Addr} {cc : Nat} {ra : Option Addr} {rn rc : Nat} {ka : Option Addr} {kn kc : Nat}
    (hl : xs'.length = xs.length) (ho : ∀ j, j / 5 ≠ i → xs'[j]? = xs[j]?) (hx : TabX xs' i t ca cc ra rn rc ka kn kc) (hv : TabV full k S w t ca cc ra rn rc ka kn kc) : TabsX full k S w xs' (L.set i t) := by
  refine ⟨by rw [hl, h.1, List.length_set], fun j hj => ?_⟩
  have hj' : j < L.length := by simpa using hj
  by_cases e : j = i
  · subst e
    refine ⟨ca, cc, ra, rn, rc, ka, kn, kc, ?_, ?_⟩
    · simpa using hx
    · simpa using hv
  · obtain ⟨ca', cc', ra', rn', rc', ka', kn', kc', c, v⟩ := h.2 j hj'
    have hg : (L.set i t)[j] = L[j] := by rw [List.getElem_set_ne (by omega)]
    rw [hg]
    exact ⟨ca', cc', ra', rn', rc', ka', kn', kc', ⟨(ho _ (by omega)).trans c.name, (ho _ (by omega)).trans c.cols, (ho _ (by omega)).trans c.key, (ho _ (by omega)).trans c.refs, (ho _ (by omega)).trans c.checks⟩, v⟩
theorem TabsX.part {full : Bool} {k : Nat} {S : Nat → Prop} {w : World} {xs : List Value} {L : List Tab} (h : TabsX full k S w xs L) : TabsX false k S w xs L :=
  ⟨h.1, fun i hi => let ⟨ca, cc, ra, rn, rc, ka, kn, kc, c, v⟩ := h.2 i hi; ⟨ca, cc, ra, rn, rc, ka, kn, kc, c, v.cols, (fun e => by cases e), (fun e => by cases e)⟩⟩
end Go.Proofs.YtpmlhgakbpfgmaaDoor
