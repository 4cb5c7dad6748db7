/- How a predicate that came in is opened, where its columns are bounded by the bulk of what was read. -/
import Derived.Test.YtndnlmpmloiiiaaDoorQo
import Derived.Test.YtndnlmpmloiiiaaDoorPw
import Derived.Test.YtndnlmpmloiiiaaDoorRows
set_option linter.unusedSimpArgs false
set_option linter.unusedVariables false
namespace Go.Proofs.YtndnlmpmloiiiaaDoor
open Go.ChangeShapes Go.WideShapes Go.ChangeAt Go.RowKit Go.Joins Go.Deep

section
variable {H : Type} {enc : TypeId × Value → H} {w : World} {base : Nat} {spare : Nat → Bool} {held : Bool}
theorem bulk_pos (d : DataW H) : 1 ≤ Rows.uptoBulk d := by
  cases d with
  | lit l => cases l <;> simp [Rows.uptoBulk]
  | _ => simp [Rows.uptoBulk]
theorem bulk_node {d0 d1 d2 d3 d4 : DataW H} {op cmp : Int} {l r : Od} {args : List Pr} (h : (colsL args).length ≤ Rows.uptoBulk d4) : (colsP (.mk op cmp l r args)).length ≤ Rows.uptoBulk (.agg [d0, d1, d2, d3, d4]) := by
  have h0 : (opdCols l).length ≤ 1 ∧ (opdCols r).length ≤ 1 := by constructor <;> (unfold opdCols; split <;> simp)
  have h1 := bulk_pos d0
  have h2 := bulk_pos d1
  simp only [Rows.uptoBulk, Rows.uptoBulkAll]
  rw [colsP_eq, List.length_append]
  split
  · rw [List.length_append]; omega
  · simp; omega
theorem bulk_map : ∀ (l : List Nat) (F : Nat → Pr) (D : Nat → DataW H), (∀ i ∈ l, (colsP (F i)).length ≤ Rows.uptoBulk (D i)) → (colsL (l.map F)).length ≤ Rows.uptoBulkAll (l.map D)
  | [], _, _, _ => by simp [colsL]
  | i :: l, F, D, h => by
    have h1 := bulk_map l F D fun j hj => h j (List.mem_cons_of_mem _ hj)
    have h2 := h i (List.mem_cons_self ..)
    rw [List.map_cons, List.map_cons, colsL, List.length_append, Rows.uptoBulkAll]
    omega
set_option maxRecDepth 100000 in
theorem open_prs_bulk : ∀ (N n : Nat) (cs : List Value) (x : DataW H × List MemPlace), SizeOf.sizeOf x.1 ≤ N → DataW.trod enc Tryd.prog w base (fun _ => true) held n 27 cs = some x →
    (∀ m ∈ x.1.weights Tryd.prog 27, m ≤ reachBytes) → ∃ v ps, cs = [v] ∧ PrIn (fun _ => True) w N v ps ∧ ps.length ≤ 1034834473200 ∧ fitL ps ∧ (colsL ps).length ≤ Rows.uptoBulk x.1
  | 0, n, cs, x, hN, h, hsz => by
    exfalso
    obtain ⟨d, p⟩ := x
    cases d <;> simp at hN
  | N + 1, n, cs, x, hN, h, hsz => by
    rcases open_slice Tryd.underlying27 h with ⟨rfl, _⟩ | ⟨a, len, cap, m, n', D, Pl, rfl, hb, hl, hm, hmm, rfl, hel⟩
    · exact ⟨_, [], rfl, PrIn.nil _ none 0, by simp, by rw [fitL]; trivial, by rw [colsL]; simp⟩
    · simp only [if_true] at hmm
      subst hmm
      have hz := hsz ((len + (m - len)) * 136) (by
        simp only [DataW.weights, Tryd.underlying27, List.length_map, List.length_range, bytesPr]
        exact List.mem_cons_self ..)
      have hall : ∀ i, i < len → ∃ (p : Pr) (s : Value), (∃ c : Nat → Value, (∀ j, j < 13 → w.cell? (a.add (i * 13 + j)) = some (c j)) ∧ c 0 = .int .i64 p.op ∧ c 1 = .int .i64 p.cmp ∧ c 2 = .int .i64 p.l.k ∧ c 3 = .int .i64 p.l.i ∧ c 4 = .int .i64 p.l.v.k ∧ c 5 = .int .i64 p.l.v.n ∧ c 6 = .string p.l.v.t ∧ c 7 = .int .i64 p.r.k ∧ c 8 = .int .i64 p.r.i ∧ c 9 = .int .i64 p.r.v.k ∧ c 10 = .int .i64 p.r.v.n ∧ c 11 = .string p.r.v.t ∧ c 12 = s) ∧ PrIn (fun _ => True) w N s p.args ∧ fitP p ∧ (colsP p).length ≤ Rows.uptoBulk (D i) := by
        intro i hi
        obtain ⟨cs', h1, h2⟩ := hel i (by omega)
        rw [cellsPr] at h1
        obtain ⟨_, hlen, hc⟩ := World.cells?_some h1
        match cs', hlen with
        | [c0, c1, c2, c3, c4, c5, c6, c7, c8, c9, c10, c11, c12], _ =>
          obtain ⟨y0, y1, y2, y3, y4, m', hx, g0, g1, g2, g3, g4⟩ := trod_struct5 Tryd.underlying29 h2
          simp only [cellsIn, cellsOd, cellsPs] at g0 g1 g2 g3 g4
          obtain ⟨op, e0, -, -⟩ := DataW.trod_int Tryd.underlying3 g0
          obtain ⟨cmp, e1, -, -⟩ := DataW.trod_int Tryd.underlying3 g1
          obtain ⟨l, e2, e3, e4, e5, e6⟩ := open_od (by simpa using g2)
          obtain ⟨r, e7, e8, e9, e10, e11⟩ := open_od (by simpa using g3)
          have hmem : D i ∈ (List.range len).map D := List.mem_map.2 ⟨i, List.mem_range.2 hi, rfl⟩
          have hsd : SizeOf.sizeOf (D i) < SizeOf.sizeOf ((List.range len).map D) := List.sizeOf_lt_of_mem hmem
          simp only at hx
          have hsy : SizeOf.sizeOf y4.1 < SizeOf.sizeOf (D i) := by
            rw [hx]; simp; omega
          obtain ⟨s, args, e12, hin, hfl, hft, hbk⟩ := open_prs_bulk N m' _ y4 (by simp at hN; omega) g4 (fun q hq => hsz q (by
            have hw : q ∈ (D i).weights Tryd.prog 29 := by
              rw [hx]
              simp only [DataW.weights, Tryd.underlying29]
              exact weights_each5 hq
            simp only [DataW.weights, Tryd.underlying27, List.mem_cons, List.mem_append]
            exact .inr (.inl (weights_all' hmem hw))))
          simp at e0 e1 e12
          refine ⟨.mk op cmp l r args, s, ⟨fun j => [c0, c1, c2, c3, c4, c5, c6, c7, c8, c9, c10, c11, c12].getD j .nilIface, ?_, e0, e1, e2, e3, e4, e5, e6, e7, e8, e9, e10, e11, e12⟩, hin, by rw [fitP]; exact ⟨hfl, hft⟩, by rw [hx]; exact bulk_node hbk⟩
          intro j hj
          have k := hc j hj
          rw [add_add] at k
          rw [k]
          simp [List.getD, hj]
      have hsp : 0 < len → a.block < w.heap.size ∧ a.spot = none := by
        intro h0
        obtain ⟨p, s, ⟨c, hc, -⟩, -, -, -⟩ := hall 0 h0
        have k0 := hc 0 (by omega)
        have : a.add (0 * 13 + 0) = a := by simp [Addr.add]
        rw [this] at k0
        exact cell_lt k0
      have hex : ∀ i, i < len → ∃ p : Pr, ∃ s, PrAt w a.block (a.off + i * 13) p s ∧ PrIn (fun _ => True) w N s p.args ∧ fitP p ∧ (colsP p).length ≤ Rows.uptoBulk (D i) := by
        intro i hi
        obtain ⟨p, s, ⟨c, hc, e0, e1, e2, e3, e4, e5, e6, e7, e8, e9, e10, e11, e12⟩, hin, hft⟩ := hall i hi
        have hs := (hsp (by omega)).2
        have kk : ∀ j, j < 13 → w.cell? ⟨a.block, a.off + i * 13 + j, none⟩ = some (c j) := fun j hj => by
          rw [Nat.add_assoc]; exact add_plain' (hc j hj) hs
        refine ⟨p, s, ⟨?_, ?_, ?_, ?_, ?_, ?_, ?_, ?_, ?_, ?_, ?_, ?_, ?_⟩, hin, hft⟩
        · rw [← e0]; exact kk 0 (by omega)
        · rw [← e1]; exact kk 1 (by omega)
        · rw [← e2]; exact kk 2 (by omega)
        · rw [← e3]; exact kk 3 (by omega)
        · rw [← e4]; exact kk 4 (by omega)
        · rw [← e5]; exact kk 5 (by omega)
        · rw [← e6]; exact kk 6 (by omega)
        · rw [← e7]; exact kk 7 (by omega)
        · rw [← e8]; exact kk 8 (by omega)
        · rw [← e9]; exact kk 9 (by omega)
        · rw [← e10]; exact kk 10 (by omega)
        · rw [← e11]; exact kk 11 (by omega)
        · rw [← e12]; exact kk 12 (by omega)
      have hinh : Inhabited Pr := ⟨.mk 0 0 zeroO zeroO []⟩
      obtain ⟨F, hF⟩ := choose_lt hex
      refine ⟨_, (List.range len).map F, rfl, ⟨some a, _, by rw [List.length_map, List.length_range], by simp [reachBytes] at hz ⊢; omega, ?_⟩, by simp [reachBytes] at hz ⊢; omega, fitL_iff.2 fun q hq => by obtain ⟨i, hi, rfl⟩ := List.mem_map.1 hq; obtain ⟨s, -, -, h, -⟩ := hF i (by simpa using hi); exact h, by rw [Rows.uptoBulk]; have := bulk_map (List.range len) F D (fun i hi => by obtain ⟨s, -, -, -, h⟩ := hF i (List.mem_range.1 hi); exact h); omega⟩
      by_cases h0 : len = 0
      · left; simp [h0]
      · right
        obtain ⟨hlt, hs⟩ := hsp (by omega)
        obtain ⟨b, off, spot⟩ := a
        simp only at hs hlt
        subst hs
        exact ⟨b, off, rfl, hlt, trivial, fun i hi => by obtain ⟨s, h1, h2, -⟩ := hF i (by simpa using hi); exact ⟨s, by simpa using h1, by simpa using h2⟩⟩
set_option maxRecDepth 100000 in
/-- A predicate that came in. -/
theorem open_Prb {r : Reach} {b0 : Nat} {v : Value} {d : DataW H} {p : List MemPlace} (hv : Value.okWide Tryd.prog w r b0 29 v) (h : DataW.Trod enc Tryd.prog w base (fun _ => true) held 29 v d p)
    (hsz : ∀ n ∈ d.weights Tryd.prog 29, n ≤ reachBytes) : ∃ (k : Nat) (x : Pr) (s : Value), v = x.val s ∧ PrIn (fun _ => True) w k s x.args ∧ fitP x ∧ (colsP x).length ≤ Rows.uptoBulk d := by
  obtain ⟨cs, rfl, hcs⟩ := okWide_struct Tryd.underlying29 hv
  rw [cellsPr] at hcs
  obtain ⟨cs⟩ := cs
  obtain ⟨fuel, hf⟩ := h
  match cs, hcs with
  | [c0, c1, c2, c3, c4, c5, c6, c7, c8, c9, c10, c11, c12], _ =>
    obtain ⟨y0, y1, y2, y3, y4, m', hx, g0, g1, g2, g3, g4⟩ := trod_struct5 Tryd.underlying29 hf
    simp only [cellsIn, cellsOd, cellsPs, Value.cells] at g0 g1 g2 g3 g4
    obtain ⟨op, e0, -, -⟩ := DataW.trod_int Tryd.underlying3 g0
    obtain ⟨cmp, e1, -, -⟩ := DataW.trod_int Tryd.underlying3 g1
    obtain ⟨l, e2, e3, e4, e5, e6⟩ := open_od (by simpa using g2)
    obtain ⟨r, e7, e8, e9, e10, e11⟩ := open_od (by simpa using g3)
    simp only at hx
    obtain ⟨s, args, e12, hin, hfl, hft, hbk⟩ := open_prs_bulk (SizeOf.sizeOf y4.1) m' _ y4 (Nat.le_refl _) g4 (fun q hq => hsz q (by
      rw [hx]
      simp only [DataW.weights, Tryd.underlying29]
      exact weights_each5 hq))
    simp at e0 e1 e12
    refine ⟨_, .mk op cmp l r args, s, ?_, hin, by rw [fitP]; exact ⟨hfl, hft⟩, by rw [hx]; exact bulk_node hbk⟩
    subst e0 e1 e2 e3 e4 e5 e6 e7 e8 e9 e10 e11 e12
    rfl
end
end Go.Proofs.YtndnlmpmloiiiaaDoor
