/- How a schema that came in is opened: its tables and their columns. -/
import Derived.Test.YtlchcakmcikjnaaDoorO
import Derived.Test.YtlchcakmcikjnaaDoorZt
set_option linter.unusedSimpArgs false
set_option linter.unusedVariables false
namespace Go.Proofs.YtlchcakmcikjnaaDoor
open Go.ChangeShapes Go.WideShapes Go.ChangeAt Go.RowKit Go.Joins Go.Deep

section
variable {H : Type} {enc : TypeId × Value → H} {w : World} {base : Nat} {spare : Nat → Bool} {held : Bool}
theorem cellsCol : Tryd.prog.cellsOf 30 = 2 := by kernel_rfl
theorem bytesCol : Tryd.prog.bytesOf 30 = 24 := by kernel_rfl
theorem cellsTab : Tryd.prog.cellsOf 35 = 5 := by kernel_rfl
theorem bytesTab : Tryd.prog.bytesOf 35 = 96 := by kernel_rfl
theorem cellsStr7 : Tryd.prog.cellsOf 9 = 1 := by kernel_rfl
theorem cellsInt7 : Tryd.prog.cellsOf 3 = 1 := by kernel_rfl
theorem cellsCs7 : Tryd.prog.cellsOf 31 = 1 := by kernel_rfl
theorem cellsTs7 : Tryd.prog.cellsOf 23 = 1 := by kernel_rfl
theorem cellsRs7 : Tryd.prog.cellsOf 32 = 1 := by kernel_rfl
theorem cellsPs7 : Tryd.prog.cellsOf 33 = 1 := by kernel_rfl
theorem trod5z {P : Program} {t : TypeId} {f0 f1 f2 f3 f4 : Field} {fuel : Nat} {cs : List Value} {x : DataW H × List MemPlace} (ht : P.underlying t = some (.struct #[f0, f1, f2, f3, f4])) (h : DataW.trod enc P w base spare held fuel t cs = some x) :
    ∃ y0 y1 y2 y3 y4 n, x.1 = .agg [y0.1, y1.1, y2.1, y3.1, y4.1] ∧ DataW.trod enc P w base spare held n f0.type ((cs.drop f0.offset).take (P.cellsOf f0.type)) = some y0 ∧
      DataW.trod enc P w base spare held n f1.type ((cs.drop f1.offset).take (P.cellsOf f1.type)) = some y1 ∧ DataW.trod enc P w base spare held n f2.type ((cs.drop f2.offset).take (P.cellsOf f2.type)) = some y2 ∧
      DataW.trod enc P w base spare held n f3.type ((cs.drop f3.offset).take (P.cellsOf f3.type)) = some y3 ∧ DataW.trod enc P w base spare held n f4.type ((cs.drop f4.offset).take (P.cellsOf f4.type)) = some y4 := by
  obtain ⟨xs, n, _, rfl, hl, hlen, hf⟩ := DataW.trod_struct ht h
  match xs, hlen with
  | [y0, y1, y2, y3, y4], _ => exact ⟨y0, y1, y2, y3, y4, n, by simp, by simpa using hf 0 f0 rfl, by simpa using hf 1 f1 rfl, by simpa using hf 2 f2 rfl, by simpa using hf 3 f3 rfl, by simpa using hf 4 f4 rfl⟩
theorem weights_all_z {P : Program} {e : TypeId} {l : List (DataW H)} {d : DataW H} (hd : d ∈ l) {n : Nat} (hn : n ∈ d.weights P e) : n ∈ DataW.weightsAll P e l := by
  induction l with
  | nil => cases hd
  | cons x l ih =>
    rw [DataW.weightsAll, List.mem_append]
    rcases List.mem_cons.1 hd with h | h
    · subst h; exact .inl hn
    · exact .inr (ih h)
theorem weights_each2z {P : Program} {t0 t1 : TypeId} {ts : List TypeId} {d0 d1 : DataW H} {ds : List (DataW H)} {n : Nat} (h : n ∈ d1.weights P t1) : n ∈ DataW.weightsEach P (t0 :: t1 :: ts) (d0 :: d1 :: ds) := by
  simp only [DataW.weightsEach, List.mem_append]
  exact .inr (.inl h)
/-- A slice, whatever it holds. -/
theorem open_some_slice {t e : TypeId} {n : Nat} {c : Value} {x : DataW H × List MemPlace} (ht : Tryd.prog.underlying t = some (.slice e)) (h : DataW.trod enc Tryd.prog w base spare held n t [c] = some x) : ∃ a l k, c = .slice a l k := by
  rcases open_slice ht h with ⟨e, _⟩ | ⟨a, len, cap, m, n', D, Pl, e, -⟩
  · simp at e; exact ⟨_, _, _, e⟩
  · simp at e; exact ⟨_, _, _, e⟩
theorem open_cols_cells {n : Nat} {c : Value} {x : DataW H × List MemPlace} (h : DataW.trod enc Tryd.prog w base (fun _ => true) held n 31 [c] = some x)
    (hsz : ∀ m ∈ x.1.weights Tryd.prog 31, m ≤ reachBytes) : ∃ l, ColsAt (fun _ => True) w c l := by
  rcases open_slice Tryd.underlying31 h with ⟨e, _⟩ | ⟨a, len, cap, m, n', D, Pl, e, hb, hl, hm, hmm, rfl, hel⟩
  · simp at e; subst e; exact ⟨[], ColsAt.nil _ _⟩
  · simp only [if_true] at hmm
    subst hmm
    simp at e
    subst e
    have hz := hsz ((len + (m - len)) * 24) (by
      simp only [DataW.weights, Tryd.underlying31, List.length_map, List.length_range, bytesCol]
      exact List.mem_cons_self ..)
    simp only [reachBytes] at hz
    have hall : ∀ i, i < len → ∃ q : Col, w.cell? (a.add (i * 2 + 0)) = some (.string q.n) ∧ w.cell? (a.add (i * 2 + 1)) = some (.int .i64 q.k) := by
      intro i hi
      obtain ⟨cs', h1, h2⟩ := hel i (by omega)
      rw [cellsCol] at h1
      obtain ⟨_, hlen, hc⟩ := World.cells?_some h1
      match cs', hlen with
      | [c0, c1], _ =>
        obtain ⟨y0, y1, m', hx, -, g0, g1⟩ := trod_struct2 Tryd.underlying30 h2
        simp only [cellsStr7, cellsInt7] at g0 g1
        obtain ⟨s, e0, -⟩ := DataW.trod_string Tryd.underlying9 g0
        obtain ⟨k, e1, -⟩ := DataW.trod_int Tryd.underlying3 g1
        have k0 := hc 0 (by omega)
        have k1 := hc 1 (by omega)
        rw [add_add] at k0 k1
        simp at e0 e1
        subst e0 e1
        exact ⟨⟨s, k⟩, by simpa using k0, by simpa using k1⟩
    have hsp : 0 < len → a.block < w.heap.size ∧ a.spot = none := by
      intro h0
      obtain ⟨q, k0, -⟩ := hall 0 h0
      have : a.add (0 * 2 + 0) = a := by simp [Addr.add]
      rw [this] at k0
      exact cell_lt k0
    have hex : ∀ i, i < len → ∃ q : Col, ColAt w a.block (a.off + i * 2) q := by
      intro i hi
      obtain ⟨q, k0, k1⟩ := hall i hi
      have hs := (hsp (by omega)).2
      exact ⟨q, by simpa using add_plain' k0 hs, by rw [Nat.add_assoc]; exact add_plain' k1 hs⟩
    have hinh : Inhabited Col := ⟨⟨⟨#[]⟩, 0⟩⟩
    obtain ⟨F, hF⟩ := choose_lt hex
    refine ⟨(List.range len).map F, some a, m, by rw [List.length_map, List.length_range], by simp; omega, by simp; omega, ?_⟩
    by_cases h0 : len = 0
    · left; simp [h0]
    · right
      obtain ⟨hlt, hs⟩ := hsp (by omega)
      obtain ⟨b, off, spot⟩ := a
      simp only at hs hlt
      subst hs
      exact ⟨b, off, rfl, hlt, trivial, fun i hi => by simpa using hF i (by simpa using hi)⟩
set_option maxRecDepth 100000 in
theorem open_tabs_cells {n : Nat} {c : Value} {x : DataW H × List MemPlace} (h : DataW.trod enc Tryd.prog w base (fun _ => true) held n 23 [c] = some x)
    (hsz : ∀ m ∈ x.1.weights Tryd.prog 23, m ≤ reachBytes) : ∃ l, TabsAt false 0 (fun _ => True) (fun _ => True) w c l := by
  rcases open_slice Tryd.underlying23 h with ⟨e, _⟩ | ⟨a, len, cap, m, n', D, Pl, e, hb, hl, hm, hmm, rfl, hel⟩
  · simp at e; subst e; exact ⟨[], none, 0, rfl, by simp, .inl rfl⟩
  · simp only [if_true] at hmm
    subst hmm
    simp at e
    subst e
    have hz := hsz ((len + (m - len)) * 96) (by
      simp only [DataW.weights, Tryd.underlying23, List.length_map, List.length_range, bytesTab]
      exact List.mem_cons_self ..)
    simp only [reachBytes] at hz
    have hall : ∀ i, i < len → ∃ (q : Tab) (ca : Option Addr) (cc : Nat) (ra : Option Addr) (rn rc : Nat) (ka : Option Addr) (kn kc : Nat), w.cell? (a.add (i * 5 + 0)) = some (.string q.name) ∧ w.cell? (a.add (i * 5 + 1)) = some (.slice ca q.cols.length cc) ∧ w.cell? (a.add (i * 5 + 2)) = some (.int .i64 q.key) ∧
        w.cell? (a.add (i * 5 + 3)) = some (.slice ra rn rc) ∧ w.cell? (a.add (i * 5 + 4)) = some (.slice ka kn kc) ∧ ColsAt (fun _ => True) w (.slice ca q.cols.length cc) q.cols := by
      intro i hi
      obtain ⟨cs', h1, h2⟩ := hel i (by omega)
      rw [cellsTab] at h1
      obtain ⟨_, hlen, hc⟩ := World.cells?_some h1
      match cs', hlen with
      | [c0, c1, c2, c3, c4], _ =>
        obtain ⟨y0, y1, y2, y3, y4, m', hx, g0, g1, g2, g3, g4⟩ := trod5z Tryd.underlying35 h2
        simp only [cellsStr7, cellsInt7, cellsCs7, cellsRs7, cellsPs7] at g0 g1 g2 g3 g4
        have hmem : D i ∈ (List.range len).map D := List.mem_map.2 ⟨i, List.mem_range.2 hi, rfl⟩
        obtain ⟨s, e0, -⟩ := DataW.trod_string Tryd.underlying9 g0
        obtain ⟨k, e2, -⟩ := DataW.trod_int Tryd.underlying3 g2
        obtain ⟨l, hcl⟩ := open_cols_cells (c := c1) (x := y1) (by simpa using g1) (fun q hq => hsz q (by
          have hw : q ∈ (D i).weights Tryd.prog 35 := by
            rw [show (D i) = _ from hx]
            simp only [DataW.weights, Tryd.underlying35]
            exact weights_each2z hq
          simp only [DataW.weights, Tryd.underlying23, List.mem_cons, List.mem_append]
          exact .inr (.inl (weights_all_z hmem hw))))
        obtain ⟨ra, rn, rc, rfl⟩ := open_some_slice (c := c3) Tryd.underlying32 (by simpa using g3)
        obtain ⟨ka, kn, kc, rfl⟩ := open_some_slice (c := c4) Tryd.underlying33 (by simpa using g4)
        obtain ⟨ca, cc, rfl, -⟩ := hcl.slice
        have k0 := hc 0 (by omega)
        have k1 := hc 1 (by omega)
        have k2 := hc 2 (by omega)
        have k3 := hc 3 (by omega)
        have k4 := hc 4 (by omega)
        rw [add_add] at k0 k1 k2 k3 k4
        simp at e0 e2
        subst e0 e2
        exact ⟨⟨s, k, l, [], []⟩, ca, cc, ra, rn, rc, ka, kn, kc, by simpa using k0, by simpa using k1, by simpa using k2, by simpa using k3, by simpa using k4, hcl⟩
    have hsp : 0 < len → a.block < w.heap.size ∧ a.spot = none := by
      intro h0
      obtain ⟨q, ca, cc, ra, rn, rc, ka, kn, kc, k0, -⟩ := hall 0 h0
      have : a.add (0 * 5 + 0) = a := by simp [Addr.add]
      rw [this] at k0
      exact cell_lt k0
    have hex : ∀ i, i < len → ∃ q : Tab, TabAt false 0 (fun _ => True) w a.block (a.off + i * 5) q := by
      intro i hi
      obtain ⟨q, ca, cc, ra, rn, rc, ka, kn, kc, k0, k1, k2, k3, k4, hcl⟩ := hall i hi
      have hs := (hsp (by omega)).2
      exact ⟨q, ca, cc, ra, rn, rc, ka, kn, kc, ⟨by simpa using add_plain' k0 hs, by rw [Nat.add_assoc]; exact add_plain' k1 hs, by rw [Nat.add_assoc]; exact add_plain' k2 hs, by rw [Nat.add_assoc]; exact add_plain' k3 hs, by rw [Nat.add_assoc]; exact add_plain' k4 hs⟩, hcl, (fun e => by cases e), (fun e => by cases e)⟩
    have hinh : Inhabited Tab := ⟨noTab⟩
    obtain ⟨F, hF⟩ := choose_lt hex
    refine ⟨(List.range len).map F, some a, m, by rw [List.length_map, List.length_range], by simp; omega, ?_⟩
    by_cases h0 : len = 0
    · left; simp [h0]
    · right
      obtain ⟨hlt, hs⟩ := hsp (by omega)
      obtain ⟨b, off, spot⟩ := a
      simp only at hs hlt
      subst hs
      exact ⟨b, off, rfl, hlt, trivial, fun i hi => by simpa using hF i (by simpa using hi)⟩
set_option maxRecDepth 100000 in
/-- A schema that came in. -/
theorem open_Schema {r : Reach} {b0 : Nat} {v : Value} {d : DataW H} {p : List MemPlace} (hv : Value.okWide Tryd.prog w r b0 25 v) (h : DataW.Trod enc Tryd.prog w base (fun _ => true) held 25 v d p)
    (hsz : ∀ n ∈ d.weights Tryd.prog 25, n ≤ reachBytes) : ∃ (ver : Int) (s : Value) (l : List Tab), v = .agg #[.int .i64 ver, s] ∧ TabsAt false 0 (fun _ => True) (fun _ => True) w s l := by
  obtain ⟨cs, rfl, hcs⟩ := okWide_struct Tryd.underlying25 hv
  rw [show Tryd.prog.cellsOf 25 = 2 by kernel_rfl] at hcs
  obtain ⟨cs⟩ := cs
  obtain ⟨fuel, hf⟩ := h
  match cs, hcs with
  | [c0, c1], _ =>
    obtain ⟨y0, y1, m', hx, -, g0, g1⟩ := trod_struct2 Tryd.underlying25 hf
    simp only [cellsInt7, cellsTs7, Value.cells] at g0 g1
    obtain ⟨k, e0, -⟩ := DataW.trod_int Tryd.underlying3 g0
    obtain ⟨l, hl⟩ := open_tabs_cells (c := c1) (x := y1) (by simpa using g1) (fun q hq => hsz q (by
      first
        | (rw [show d = _ from (congrArg Prod.fst hx)])
        | (rw [show d = _ from hx])
      simp only [DataW.weights, Tryd.underlying25]
      exact weights_each2z hq))
    simp at e0
    subst e0
    exact ⟨k, c1, l, rfl, hl⟩
end
end Go.Proofs.YtlchcakmcikjnaaDoor

/- A copy of a row; a value stored into a row that the call owns. -/
namespace Go.Proofs.YtlchcakmcikjnaaDoor
open Go.RowKit
theorem run_append_nil7 {w : World} (t ty e : TypeId) (i : TypeInfo) (a : Option Addr) (c : Nat) (ht : Tryd.prog.underlying t = some (.slice e)) (hi : Tryd.prog.info? e = some i) :
    (Builtin.append_ #[t, t] ty #[.slice none 0 0, .slice a 0 c]).run Tryd.prog w = .ok (.slice none 0 0) w := by
  cases a <;> simp [Builtin.append_, run_underlying ht, sizeOf, typeInfo, hi, Builtin.lenOf, Builtin.firstCells, loadCells, loadCellsFrom]
theorem wpList_append_nil7 {w : World} {ops : Array Oper} {rest : List Oper} {o : Oper} {a : Act} {Q : Exit → Act → World → Prop} (hgd : o.guard = none) (s x : Operand) (t : TypeId)
    (ho : o.op = .call { callee := .builtin .append, args := #[s, x], argTypes := #[t, t] })
    (e : TypeId) (i : TypeInfo) (ht : Tryd.prog.underlying t = some (.slice e)) (hi : Tryd.prog.info? e = some i)
    (ad : Option Addr) (c : Nat) (hs : a.eval s = .slice none 0 0) (hx : a.eval x = .slice ad 0 c)
    (h : wpList Tryd.prog ops Q rest (a.put o.dst (.slice none 0 0)) w) : wpList Tryd.prog ops Q (o :: rest) a w := by
  refine wpList_plain hgd fun K hK => ?_
  have hrun := run_append_nil7 (w := w) t o.type e i ad c ht hi
  unfold Oper.wp
  simp [execOp, ho, resolve, invoke, builtin, hs, hx, hrun, Result.andThen]
  exact hK _ _ h

/-- A copy of a row. -/
theorem rowCopy_calls (va : Value) (r : List V) (w : World) (ha : RowAt w va r) :
    Calls Tryd.prog 26 #[va] w fun e w' => ∃ v, e = .returned v ∧ w'.ownsRow w.heap.size 56 3 v r.length (flat r) ∧ Below w.heap.size w w' := by
  obtain ⟨i, hi, hz, hsz, hby⟩ := info_parts info24
  obtain ⟨pa, ca, rfl, la, ha⟩ := ha
  by_cases h0 : r = []
  · subst h0
    go_enter Tryd.func26, Tryd.ntmps26
    go_wp2_with (at_builtin; go_must (refine wpList_append_nil7 rfl _ _ 43 rfl 56 i Tryd.underlying43 hi pa ca rfl rfl ?_))
    go_wp2
    go_ret
    exact ⟨_, rfl, World.ownsRow_nil _ _ _ _, Below.refl _ _⟩
  · obtain ⟨b, off, rfl, hb⟩ := ha.resolve_left h0
    have hl := flat_length r
    have h1 := flat_one r
    have hc := flat_cells r off hb.at_
    have hn := World.ownsRow_nil w w.heap.size 56 3
    have HI := Lib.hid hi
    have HZ := Lib.hid hz
    have HSZ := Lib.hid hsz
    have HBY := Lib.hid hby
    have HL := Lib.hid hl
    have H1 := Lib.hid h1
    have HC := Lib.hid hc
    have HN := Lib.hid hn
    clear hi hz hsz hby hl h1 hc hn hb ha h0
    go_enter Tryd.func26, Tryd.ntmps26
    go_wp2_with (at_builtin; go_must (refine wpList_append_own _ rfl _ _ 43 rfl w.heap.size 56 i (V.val ⟨0, 0, ⟨#[]⟩⟩) 3 32 Tryd.underlying43 HI.out HZ.out HSZ.out HBY.out rfl (by decide) _ 0 [] rfl HN.out ⟨b, off, none⟩ r.length ca (flat r) rfl HL.out ?c1 H1.out ?c3 ?c4 ?c5 ?_))
    case c1 => intro j u hj; have := HC.out j u hj; unfold Addr.add; split <;> simp_all
    case c3 => unfold maxLen; omega
    case c4 => omega
    case c5 => omega
    intro v' w7 hown' hgrow hnil
    have HOW' := Lib.hid hown'
    have HG7 := Lib.hid hgrow
    clear hown' hgrow hnil
    go_wp2
    go_ret
    exact ⟨_, rfl, by have := HOW'.out; simpa using this, (Below.refl _ _).grown HG7.out (Nat.le_refl _) (fun k hk => by simp [Value.ownBlock] at hk)⟩

theorem flat_set7 : ∀ (r : List V) (j : Nat) (v : V), j < r.length → (((flat r).set (j * 3) (.int .i64 v.k)).set (j * 3 + 1) (.int .i64 v.n)).set (j * 3 + 2) (.string v.t) = flat (r.set j v)
  | [], _, _, h => by simp at h
  | x :: r, 0, v, _ => by rfl
  | x :: r, j + 1, v, h => by
    have ih := flat_set7 r j v (by simpa using h)
    rw [List.set_cons_succ, flat, flat, ← ih, show (j + 1) * 3 = j * 3 + 1 + 1 + 1 by omega, show j * 3 + 1 + 1 + 1 + 1 = (j * 3 + 1) + 1 + 1 + 1 by omega, show j * 3 + 1 + 1 + 1 + 2 = (j * 3 + 2) + 1 + 1 + 1 by omega]
    simp only [List.set_cons_succ]
/-- A value stored into a row that the call owns. -/
theorem row_set7 {base : Nat} {w : World} {g cap : Nat} {r : List V} (h : w.ownsRow base 56 3 (.slice (some ⟨g, 0, none⟩) r.length cap) r.length (flat r)) (j : Nat) (hj : j < r.length) (v : V) :
    (((w.setCell ⟨g, j * 3, none⟩ (.int .i64 v.k)).setCell ⟨g, j * 3 + 1, none⟩ (.int .i64 v.n)).setCell ⟨g, j * 3 + 2, none⟩ (.string v.t)).ownsRow base 56 3 (.slice (some ⟨g, 0, none⟩) r.length cap) r.length (flat (r.set j v)) ∧
    w.grownBy (((w.setCell ⟨g, j * 3, none⟩ (.int .i64 v.k)).setCell ⟨g, j * 3 + 1, none⟩ (.int .i64 v.n)).setCell ⟨g, j * 3 + 2, none⟩ (.string v.t)) (some g) := by
  have s1 := h.stored (j * 3) (.int .i64 v.k)
  have s2 := s1.1.stored (j * 3 + 1) (.int .i64 v.n)
  have s3 := s2.1.stored (j * 3 + 2) (.string v.t)
  rw [← flat_set7 r j v hj]
  exact ⟨s3.1, by_trans (by_trans s1.2 s2.2) s3.2⟩

end Go.Proofs.YtlchcakmcikjnaaDoor
