/- How values that came in are opened. -/
import Derived.Test.YtndnlmpmloiiiaaDoorO
import Derived.Test.YtndnlmpmloiiiaaDoorPk
import Derived.Test.YtndnlmpmloiiiaaDoorQr
set_option linter.unusedSimpArgs false
set_option linter.unusedVariables false
namespace Go.Proofs.YtndnlmpmloiiiaaDoor
open Go.ChangeShapes Go.WideShapes Go.ChangeAt Go.RowKit Go.Joins Go.Deep

section
variable {H : Type} {enc : TypeId × Value → H} {w : World} {base : Nat} {spare : Nat → Bool} {held : Bool}
theorem open_vs_cells {cs : List Value} {n : Nat} {x : DataW H × List MemPlace} (h : DataW.trod enc Tryd.prog w base (fun _ => true) held n 40 cs = some x)
    (hsz : ∀ es sp, x.1 = .slice es sp → (es.length + sp.length) * 32 ≤ reachBytes) : ∃ v r, cs = [v] ∧ RowAt w v r := by
  rcases open_slice Tryd.underlying40 h with ⟨rfl, _⟩ | ⟨a, len, cap, m, n', D, Pl, rfl, hb, hl, hm, hmm, rfl, hel⟩
  · exact ⟨_, [], rfl, none, 0, rfl, by simp, .inl rfl⟩
  · simp only [if_true] at hmm
    subst hmm
    have hz := hsz _ _ rfl
    simp only [List.length_map, List.length_range, reachBytes] at hz
    have hall : ∀ i, i < len → ∃ c0 c1 c2 : Value, ∃ v : V, c0 = .int .i64 v.k ∧ c1 = .int .i64 v.n ∧ c2 = .string v.t ∧ w.cell? (a.add (i * 3 + 0)) = some c0 ∧ w.cell? (a.add (i * 3 + 1)) = some c1 ∧ w.cell? (a.add (i * 3 + 2)) = some c2 := by
      intro i hi
      obtain ⟨cs', h1, h2⟩ := hel i (by omega)
      rw [cells24] at h1
      obtain ⟨_, hlen, hc⟩ := World.cells?_some h1
      match cs', hlen with
      | [c0, c1, c2], _ =>
        obtain ⟨v, e0, e1, e2⟩ := open_cells3 h2
        have k0 := hc 0 (by omega)
        have k1 := hc 1 (by omega)
        have k2 := hc 2 (by omega)
        rw [add_add] at k0 k1 k2
        exact ⟨c0, c1, c2, v, e0, e1, e2, by simpa using k0, by simpa using k1, by simpa using k2⟩
    have hsp : 0 < len → a.block < w.heap.size ∧ a.spot = none := by
      intro h0
      obtain ⟨c0, c1, c2, v, e0, e1, e2, k0, k1, k2⟩ := hall 0 h0
      have : a.add (0 * 3 + 0) = a := by simp [Addr.add]
      rw [this] at k0
      exact cell_lt k0
    have hex : ∀ i, i < len → ∃ v : V, At w a.block (a.off + i * 3) v := by
      intro i hi
      obtain ⟨c0, c1, c2, v, rfl, rfl, rfl, k0, k1, k2⟩ := hall i hi
      have hs := (hsp (by omega)).2
      exact ⟨v, ⟨add_plain' k0 hs, by rw [Nat.add_assoc]; exact add_plain' k1 hs, by rw [Nat.add_assoc]; exact add_plain' k2 hs⟩⟩
    have hin : Inhabited V := ⟨⟨0, 0, ByteArray.empty⟩⟩
    obtain ⟨F, hF⟩ := choose_lt hex
    refine ⟨_, (List.range len).map F, rfl, some a, _, by rw [List.length_map, List.length_range], by simp; omega, ?_⟩
    by_cases h0 : len = 0
    · left; simp [h0]
    · right
      obtain ⟨hlt, hs⟩ := hsp (by omega)
      obtain ⟨b, off, spot⟩ := a
      simp only at hs hlt
      subst hs
      exact ⟨b, off, rfl, hlt, fun i hi => by simpa using hF i (by simpa using hi)⟩

set_option maxRecDepth 100000 in
/-- Values that came in. -/
theorem open_Vs {r : Reach} {b0 : Nat} {v : Value} {d : DataW H} {p : List MemPlace} (hv : Value.okWide Tryd.prog w r b0 40 v) (h : DataW.Trod enc Tryd.prog w base (fun _ => true) held 40 v d p)
    (hsz : ∀ es sp, d = .slice es sp → (es.length + sp.length) * 32 ≤ reachBytes) : ∃ r, RowAt w v r := by
  obtain ⟨a0, len0, cap0, rfl⟩ := okWide_slice Tryd.underlying40 hv
  obtain ⟨fuel, hf⟩ := h
  obtain ⟨v, r, hcs, hr⟩ := open_vs_cells hf hsz
  simp [Value.cells] at hcs
  subst hcs
  exact ⟨r, hr⟩
end
end Go.Proofs.YtndnlmpmloiiiaaDoor
/- How a predicate that came in is opened. -/
set_option linter.unusedSimpArgs false
set_option linter.unusedVariables false
namespace Go.Proofs.YtndnlmpmloiiiaaDoor
open Go.ChangeShapes Go.WideShapes Go.ChangeAt Go.RowKit Go.Joins Go.Deep

section
variable {H : Type} {enc : TypeId × Value → H} {w : World} {base : Nat} {spare : Nat → Bool} {held : Bool}
theorem cellsOd : Tryd.prog.cellsOf 26 = 5 := by kernel_rfl
theorem cellsPr : Tryd.prog.cellsOf 29 = 13 := by kernel_rfl
theorem bytesPr : Tryd.prog.bytesOf 29 = 136 := by kernel_rfl
theorem cellsIn : Tryd.prog.cellsOf 3 = 1 := by kernel_rfl
theorem cellsPs : Tryd.prog.cellsOf 27 = 1 := by kernel_rfl
theorem trod_struct5 {P : Program} {t : TypeId} {f0 f1 f2 f3 f4 : Field} {fuel : Nat} {cs : List Value} {x : DataW H × List MemPlace} (ht : P.underlying t = some (.struct #[f0, f1, f2, f3, f4])) (h : DataW.trod enc P w base spare held fuel t cs = some x) :
    ∃ y0 y1 y2 y3 y4 n, x.1 = .agg [y0.1, y1.1, y2.1, y3.1, y4.1] ∧ DataW.trod enc P w base spare held n f0.type ((cs.drop f0.offset).take (P.cellsOf f0.type)) = some y0 ∧
      DataW.trod enc P w base spare held n f1.type ((cs.drop f1.offset).take (P.cellsOf f1.type)) = some y1 ∧ DataW.trod enc P w base spare held n f2.type ((cs.drop f2.offset).take (P.cellsOf f2.type)) = some y2 ∧
      DataW.trod enc P w base spare held n f3.type ((cs.drop f3.offset).take (P.cellsOf f3.type)) = some y3 ∧ DataW.trod enc P w base spare held n f4.type ((cs.drop f4.offset).take (P.cellsOf f4.type)) = some y4 := by
  obtain ⟨xs, n, _, rfl, hl, hlen, hf⟩ := DataW.trod_struct ht h
  match xs, hlen with
  | [y0, y1, y2, y3, y4], _ => exact ⟨y0, y1, y2, y3, y4, n, by simp, by simpa using hf 0 f0 rfl, by simpa using hf 1 f1 rfl, by simpa using hf 2 f2 rfl, by simpa using hf 3 f3 rfl, by simpa using hf 4 f4 rfl⟩
theorem open_od {n : Nat} {c0 c1 c2 c3 c4 : Value} {x : DataW H × List MemPlace} (h : DataW.trod enc Tryd.prog w base spare held n 26 [c0, c1, c2, c3, c4] = some x) :
    ∃ o : Od, c0 = .int .i64 o.k ∧ c1 = .int .i64 o.i ∧ c2 = .int .i64 o.v.k ∧ c3 = .int .i64 o.v.n ∧ c4 = .string o.v.t := by
  obtain ⟨y0, y1, y2, m, hx, _, h0, h1, h2⟩ := trod_struct3 Tryd.underlying26 h
  simp only [cells24, cellsIn] at h0 h1 h2
  obtain ⟨a, e0, -, wa⟩ := DataW.trod_int Tryd.underlying3 h0
  obtain ⟨b, e1, -, wb⟩ := DataW.trod_int Tryd.underlying3 h1
  obtain ⟨v, e2, e3, e4⟩ := open_cells3 (by simpa using h2)
  simp at e0 e1
  exact ⟨⟨a, b, v⟩, e0, e1, e2, e3, e4⟩
theorem weights_each5 {P : Program} {t0 t1 t2 t3 t4 : TypeId} {d0 d1 d2 d3 d4 : DataW H} {n : Nat} (h : n ∈ d4.weights P t4) : n ∈ DataW.weightsEach P [t0, t1, t2, t3, t4] [d0, d1, d2, d3, d4] := by
  simp only [DataW.weightsEach, List.mem_append]
  exact .inr (.inr (.inr (.inr (.inl h))))
theorem weights_all' {P : Program} {e : TypeId} {l : List (DataW H)} {d : DataW H} (hd : d ∈ l) {n : Nat} (hn : n ∈ d.weights P e) : n ∈ DataW.weightsAll P e l := by
  induction l with
  | nil => cases hd
  | cons x l ih =>
    rw [DataW.weightsAll, List.mem_append]
    rcases List.mem_cons.1 hd with h | h
    · subst h; exact .inl hn
    · exact .inr (ih h)
set_option maxRecDepth 100000 in
theorem open_prs_cells : ∀ (N n : Nat) (cs : List Value) (x : DataW H × List MemPlace), SizeOf.sizeOf x.1 ≤ N → DataW.trod enc Tryd.prog w base (fun _ => true) held n 27 cs = some x →
    (∀ m ∈ x.1.weights Tryd.prog 27, m ≤ reachBytes) → ∃ v ps, cs = [v] ∧ PrIn (fun _ => True) w N v ps ∧ ps.length ≤ 1034834473200 ∧ fitL ps
  | 0, n, cs, x, hN, h, hsz => by
    exfalso
    obtain ⟨d, p⟩ := x
    cases d <;> simp at hN
  | N + 1, n, cs, x, hN, h, hsz => by
    rcases open_slice Tryd.underlying27 h with ⟨rfl, _⟩ | ⟨a, len, cap, m, n', D, Pl, rfl, hb, hl, hm, hmm, rfl, hel⟩
    · exact ⟨_, [], rfl, PrIn.nil _ none 0, by simp, by rw [fitL]; trivial⟩
    · simp only [if_true] at hmm
      subst hmm
      have hz := hsz ((len + (m - len)) * 136) (by
        simp only [DataW.weights, Tryd.underlying27, List.length_map, List.length_range, bytesPr]
        exact List.mem_cons_self ..)
      have hall : ∀ i, i < len → ∃ (p : Pr) (s : Value), (∃ c : Nat → Value, (∀ j, j < 13 → w.cell? (a.add (i * 13 + j)) = some (c j)) ∧ c 0 = .int .i64 p.op ∧ c 1 = .int .i64 p.cmp ∧ c 2 = .int .i64 p.l.k ∧ c 3 = .int .i64 p.l.i ∧ c 4 = .int .i64 p.l.v.k ∧ c 5 = .int .i64 p.l.v.n ∧ c 6 = .string p.l.v.t ∧ c 7 = .int .i64 p.r.k ∧ c 8 = .int .i64 p.r.i ∧ c 9 = .int .i64 p.r.v.k ∧ c 10 = .int .i64 p.r.v.n ∧ c 11 = .string p.r.v.t ∧ c 12 = s) ∧ PrIn (fun _ => True) w N s p.args ∧ fitP p := by
        intro i hi
        obtain ⟨cs', h1, h2⟩ := hel i (by omega)
        rw [cellsPr] at h1
        obtain ⟨_, hlen, hc⟩ := World.cells?_some h1
        match cs', hlen with
        | [c0, c1, c2, c3, c4, c5, c6, c7, c8, c9, c10, c11, c12], _ =>
          obtain ⟨y0, y1, y2, y3, y4, m', hx, g0, g1, g2, g3, g4⟩ := trod_struct5 Tryd.underlying29 h2
          simp only [cellsIn, cellsOd, cellsPs] at g0 g1 g2 g3 g4
          obtain ⟨op, e0, -, -⟩ := DataW.trod_int Tryd.underlying3 g0
          obtain ⟨cmp, e1, -, -⟩ := DataW.trod_int Tryd.underlying3 g1
          obtain ⟨l, e2, e3, e4, e5, e6⟩ := open_od (by simpa using g2)
          obtain ⟨r, e7, e8, e9, e10, e11⟩ := open_od (by simpa using g3)
          have hmem : D i ∈ (List.range len).map D := List.mem_map.2 ⟨i, List.mem_range.2 hi, rfl⟩
          have hsd : SizeOf.sizeOf (D i) < SizeOf.sizeOf ((List.range len).map D) := List.sizeOf_lt_of_mem hmem
          simp only at hx
          have hsy : SizeOf.sizeOf y4.1 < SizeOf.sizeOf (D i) := by
            rw [hx]; simp; omega
          obtain ⟨s, args, e12, hin, hfl, hft⟩ := open_prs_cells N m' _ y4 (by simp at hN; omega) g4 (fun q hq => hsz q (by
            have hw : q ∈ (D i).weights Tryd.prog 29 := by
              rw [hx]
              simp only [DataW.weights, Tryd.underlying29]
              exact weights_each5 hq
            simp only [DataW.weights, Tryd.underlying27, List.mem_cons, List.mem_append]
            exact .inr (.inl (weights_all' hmem hw))))
          simp at e0 e1 e12
          refine ⟨.mk op cmp l r args, s, ⟨fun j => [c0, c1, c2, c3, c4, c5, c6, c7, c8, c9, c10, c11, c12].getD j .nilIface, ?_, e0, e1, e2, e3, e4, e5, e6, e7, e8, e9, e10, e11, e12⟩, hin, by rw [fitP]; exact ⟨hfl, hft⟩⟩
          intro j hj
          have k := hc j hj
          rw [add_add] at k
          rw [k]
          simp [List.getD, hj]
      have hsp : 0 < len → a.block < w.heap.size ∧ a.spot = none := by
        intro h0
        obtain ⟨p, s, ⟨c, hc, -⟩, -, -⟩ := hall 0 h0
        have k0 := hc 0 (by omega)
        have : a.add (0 * 13 + 0) = a := by simp [Addr.add]
        rw [this] at k0
        exact cell_lt k0
      have hex : ∀ i, i < len → ∃ p : Pr, ∃ s, PrAt w a.block (a.off + i * 13) p s ∧ PrIn (fun _ => True) w N s p.args ∧ fitP p := by
        intro i hi
        obtain ⟨p, s, ⟨c, hc, e0, e1, e2, e3, e4, e5, e6, e7, e8, e9, e10, e11, e12⟩, hin, hft⟩ := hall i hi
        have hs := (hsp (by omega)).2
        have kk : ∀ j, j < 13 → w.cell? ⟨a.block, a.off + i * 13 + j, none⟩ = some (c j) := fun j hj => by
          rw [Nat.add_assoc]; exact add_plain' (hc j hj) hs
        refine ⟨p, s, ⟨?_, ?_, ?_, ?_, ?_, ?_, ?_, ?_, ?_, ?_, ?_, ?_, ?_⟩, hin, hft⟩
        · rw [← e0]; exact kk 0 (by omega)
        · rw [← e1]; exact kk 1 (by omega)
        · rw [← e2]; exact kk 2 (by omega)
        · rw [← e3]; exact kk 3 (by omega)
        · rw [← e4]; exact kk 4 (by omega)
        · rw [← e5]; exact kk 5 (by omega)
        · rw [← e6]; exact kk 6 (by omega)
        · rw [← e7]; exact kk 7 (by omega)
        · rw [← e8]; exact kk 8 (by omega)
        · rw [← e9]; exact kk 9 (by omega)
        · rw [← e10]; exact kk 10 (by omega)
        · rw [← e11]; exact kk 11 (by omega)
        · rw [← e12]; exact kk 12 (by omega)
      have hinh : Inhabited Pr := ⟨.mk 0 0 zeroO zeroO []⟩
      obtain ⟨F, hF⟩ := choose_lt hex
      refine ⟨_, (List.range len).map F, rfl, ⟨some a, _, by rw [List.length_map, List.length_range], by simp [reachBytes] at hz ⊢; omega, ?_⟩, by simp [reachBytes] at hz ⊢; omega, fitL_iff.2 fun q hq => by obtain ⟨i, hi, rfl⟩ := List.mem_map.1 hq; obtain ⟨s, -, -, h⟩ := hF i (by simpa using hi); exact h⟩
      by_cases h0 : len = 0
      · left; simp [h0]
      · right
        obtain ⟨hlt, hs⟩ := hsp (by omega)
        obtain ⟨b, off, spot⟩ := a
        simp only at hs hlt
        subst hs
        exact ⟨b, off, rfl, hlt, trivial, fun i hi => by obtain ⟨s, h1, h2, -⟩ := hF i (by simpa using hi); exact ⟨s, by simpa using h1, by simpa using h2⟩⟩
set_option maxRecDepth 100000 in
/-- A predicate that came in. -/
theorem open_Pr {r : Reach} {b0 : Nat} {v : Value} {d : DataW H} {p : List MemPlace} (hv : Value.okWide Tryd.prog w r b0 29 v) (h : DataW.Trod enc Tryd.prog w base (fun _ => true) held 29 v d p)
    (hsz : ∀ n ∈ d.weights Tryd.prog 29, n ≤ reachBytes) : ∃ (k : Nat) (x : Pr) (s : Value), v = x.val s ∧ PrIn (fun _ => True) w k s x.args ∧ fitP x := by
  obtain ⟨cs, rfl, hcs⟩ := okWide_struct Tryd.underlying29 hv
  rw [cellsPr] at hcs
  obtain ⟨cs⟩ := cs
  obtain ⟨fuel, hf⟩ := h
  match cs, hcs with
  | [c0, c1, c2, c3, c4, c5, c6, c7, c8, c9, c10, c11, c12], _ =>
    obtain ⟨y0, y1, y2, y3, y4, m', hx, g0, g1, g2, g3, g4⟩ := trod_struct5 Tryd.underlying29 hf
    simp only [cellsIn, cellsOd, cellsPs, Value.cells] at g0 g1 g2 g3 g4
    obtain ⟨op, e0, -, -⟩ := DataW.trod_int Tryd.underlying3 g0
    obtain ⟨cmp, e1, -, -⟩ := DataW.trod_int Tryd.underlying3 g1
    obtain ⟨l, e2, e3, e4, e5, e6⟩ := open_od (by simpa using g2)
    obtain ⟨r, e7, e8, e9, e10, e11⟩ := open_od (by simpa using g3)
    simp only at hx
    obtain ⟨s, args, e12, hin, hfl, hft⟩ := open_prs_cells (SizeOf.sizeOf y4.1) m' _ y4 (Nat.le_refl _) g4 (fun q hq => hsz q (by
      rw [hx]
      simp only [DataW.weights, Tryd.underlying29]
      exact weights_each5 hq))
    simp at e0 e1 e12
    refine ⟨_, .mk op cmp l r args, s, ?_, hin, by rw [fitP]; exact ⟨hfl, hft⟩⟩
    subst e0 e1 e2 e3 e4 e5 e6 e7 e8 e9 e10 e11 e12
    rfl
end
end Go.Proofs.YtndnlmpmloiiiaaDoor
