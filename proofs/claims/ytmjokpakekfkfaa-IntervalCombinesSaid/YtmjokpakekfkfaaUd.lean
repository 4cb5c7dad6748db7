/- A list of intervals with one thing changed (the law's own 'spoilt'); the case's Bool at any number. -/
import Derived.Test.YtmjokpakekfkfaaUc
import Derived.Test.YtmjokpakekfkfaaI
import Derived.Laws.OwnMore
import Derived.Lib.SmallJoins
set_option linter.unusedSimpArgs false
set_option linter.unusedVariables false
namespace Go.Proofs.Ytmjokpakekfkfaa
open Go.RowKit

theorem boolN_calls (b : Nat) (c : CaseId) (n : Int) (h1 : 1 ≤ n) (h2 : n ≤ 4398046511104) (w : World) (hc : CaseAt w b c) : Calls Try.prog 34 #[.pointer (some ⟨b, 0, none⟩), .int .i64 n] w (GotB b c w) := by
  have HI := Lib.hid (int_calls b c n h1 h2 w hc)
  clear hc h1 h2
  go_enter Try.func34, Try.ntmps34
  go_wp2_with fail
  refine HI.out.mono ?_
  rintro e w2 ⟨x, rfl, h0, h1, hc2, hb2⟩
  have HC := Lib.hid (And.intro hc2 hb2)
  clear hc2 hb2 HI h0 h1
  go_wp2
  go_ret
  exact ⟨_, rfl, HC.out.1, HC.out.2⟩

/-- Cells that read as n intervals. -/
def Flat (xs : List Value) (n : Nat) : Prop := ∃ L : List I, L.length = n ∧ flatI L = xs
theorem flatI_one : ∀ (L : List I), ∀ u ∈ flatI L, u.oneCell' = true
  | [], u, h => by simp [flatI] at h
  | y :: L, u, h => by
    simp only [flatI, List.mem_cons] at h
    rcases h with rfl | rfl | rfl | rfl | rfl | rfl | rfl | h
    · rfl
    · rfl
    · rfl
    · rfl
    · rfl
    · rfl
    · rfl
    · exact flatI_one L u h
theorem flat_of (L : List I) : Flat (flatI L) L.length := ⟨L, rfl, rfl⟩
theorem flat_set0 (L : List I) (i : Nat) (hi : i < L.length) (u : Int) : Flat ((flatI L).set (i * 7) (.int .i64 u)) L.length := by
  induction L generalizing i with
  | nil => simp at hi
  | cons y L ih =>
    rcases i with _ | i
    · exact ⟨⟨⟨u, y.f.n, y.f.t⟩, y.t, y.o⟩ :: L, by simp, by simp [flatI]⟩
    · obtain ⟨L', h1, h2⟩ := ih i (by simpa using hi)
      exact ⟨y :: L', by simp [h1], by rw [show (i + 1) * 7 = i * 7 + 7 from by omega]; simpa [flatI] using h2⟩
theorem Flat.set0 {xs : List Value} {n i : Nat} (h : Flat xs n) (hi : i < n) (u : Int) : Flat (xs.set (i * 7) (.int .i64 u)) n := by
  obtain ⟨L, rfl, rfl⟩ := h
  exact flat_set0 L i hi u
theorem flat_set1 (L : List I) (i : Nat) (hi : i < L.length) (u : Int) : Flat ((flatI L).set (i * 7 + 1) (.int .i64 u)) L.length := by
  induction L generalizing i with
  | nil => simp at hi
  | cons y L ih =>
    rcases i with _ | i
    · exact ⟨⟨⟨y.f.k, u, y.f.t⟩, y.t, y.o⟩ :: L, by simp, by simp [flatI]⟩
    · obtain ⟨L', h1, h2⟩ := ih i (by simpa using hi)
      exact ⟨y :: L', by simp [h1], by rw [show (i + 1) * 7 = i * 7 + 7 from by omega]; simpa [flatI] using h2⟩
theorem Flat.set1 {xs : List Value} {n i : Nat} (h : Flat xs n) (hi : i < n) (u : Int) : Flat (xs.set (i * 7 + 1) (.int .i64 u)) n := by
  obtain ⟨L, rfl, rfl⟩ := h
  exact flat_set1 L i hi u
theorem flat_set2 (L : List I) (i : Nat) (hi : i < L.length) (u : ByteArray) : Flat ((flatI L).set (i * 7 + 2) (.string u)) L.length := by
  induction L generalizing i with
  | nil => simp at hi
  | cons y L ih =>
    rcases i with _ | i
    · exact ⟨⟨⟨y.f.k, y.f.n, u⟩, y.t, y.o⟩ :: L, by simp, by simp [flatI]⟩
    · obtain ⟨L', h1, h2⟩ := ih i (by simpa using hi)
      exact ⟨y :: L', by simp [h1], by rw [show (i + 1) * 7 = i * 7 + 7 from by omega]; simpa [flatI] using h2⟩
theorem Flat.set2 {xs : List Value} {n i : Nat} (h : Flat xs n) (hi : i < n) (u : ByteArray) : Flat (xs.set (i * 7 + 2) (.string u)) n := by
  obtain ⟨L, rfl, rfl⟩ := h
  exact flat_set2 L i hi u
theorem flat_set3 (L : List I) (i : Nat) (hi : i < L.length) (u : Int) : Flat ((flatI L).set (i * 7 + 3) (.int .i64 u)) L.length := by
  induction L generalizing i with
  | nil => simp at hi
  | cons y L ih =>
    rcases i with _ | i
    · exact ⟨⟨y.f, ⟨u, y.t.n, y.t.t⟩, y.o⟩ :: L, by simp, by simp [flatI]⟩
    · obtain ⟨L', h1, h2⟩ := ih i (by simpa using hi)
      exact ⟨y :: L', by simp [h1], by rw [show (i + 1) * 7 = i * 7 + 7 from by omega]; simpa [flatI] using h2⟩
theorem Flat.set3 {xs : List Value} {n i : Nat} (h : Flat xs n) (hi : i < n) (u : Int) : Flat (xs.set (i * 7 + 3) (.int .i64 u)) n := by
  obtain ⟨L, rfl, rfl⟩ := h
  exact flat_set3 L i hi u
theorem flat_set4 (L : List I) (i : Nat) (hi : i < L.length) (u : Int) : Flat ((flatI L).set (i * 7 + 4) (.int .i64 u)) L.length := by
  induction L generalizing i with
  | nil => simp at hi
  | cons y L ih =>
    rcases i with _ | i
    · exact ⟨⟨y.f, ⟨y.t.k, u, y.t.t⟩, y.o⟩ :: L, by simp, by simp [flatI]⟩
    · obtain ⟨L', h1, h2⟩ := ih i (by simpa using hi)
      exact ⟨y :: L', by simp [h1], by rw [show (i + 1) * 7 = i * 7 + 7 from by omega]; simpa [flatI] using h2⟩
theorem Flat.set4 {xs : List Value} {n i : Nat} (h : Flat xs n) (hi : i < n) (u : Int) : Flat (xs.set (i * 7 + 4) (.int .i64 u)) n := by
  obtain ⟨L, rfl, rfl⟩ := h
  exact flat_set4 L i hi u
theorem flat_set5 (L : List I) (i : Nat) (hi : i < L.length) (u : ByteArray) : Flat ((flatI L).set (i * 7 + 5) (.string u)) L.length := by
  induction L generalizing i with
  | nil => simp at hi
  | cons y L ih =>
    rcases i with _ | i
    · exact ⟨⟨y.f, ⟨y.t.k, y.t.n, u⟩, y.o⟩ :: L, by simp, by simp [flatI]⟩
    · obtain ⟨L', h1, h2⟩ := ih i (by simpa using hi)
      exact ⟨y :: L', by simp [h1], by rw [show (i + 1) * 7 = i * 7 + 7 from by omega]; simpa [flatI] using h2⟩
theorem Flat.set5 {xs : List Value} {n i : Nat} (h : Flat xs n) (hi : i < n) (u : ByteArray) : Flat (xs.set (i * 7 + 5) (.string u)) n := by
  obtain ⟨L, rfl, rfl⟩ := h
  exact flat_set5 L i hi u
theorem flat_set6 (L : List I) (i : Nat) (hi : i < L.length) (u : Bool) : Flat ((flatI L).set (i * 7 + 6) (.bool u)) L.length := by
  induction L generalizing i with
  | nil => simp at hi
  | cons y L ih =>
    rcases i with _ | i
    · exact ⟨⟨y.f, y.t, u⟩ :: L, by simp, by simp [flatI]⟩
    · obtain ⟨L', h1, h2⟩ := ih i (by simpa using hi)
      exact ⟨y :: L', by simp [h1], by rw [show (i + 1) * 7 = i * 7 + 7 from by omega]; simpa [flatI] using h2⟩
theorem Flat.set6 {xs : List Value} {n i : Nat} (h : Flat xs n) (hi : i < n) (u : Bool) : Flat (xs.set (i * 7 + 6) (.bool u)) n := by
  obtain ⟨L, rfl, rfl⟩ := h
  exact flat_set6 L i hi u
theorem Flat.snoc {xs : List Value} {n : Nat} (h : Flat xs n) (x : I) : Flat (xs ++ [.int .i64 x.f.k, .int .i64 x.f.n, .string x.f.t, .int .i64 x.t.k, .int .i64 x.t.n, .string x.t.t, .bool x.o]) (n + 1) := by
  obtain ⟨L, rfl, rfl⟩ := h
  exact ⟨L ++ [x], by simp, flatI_snoc _ _⟩
/-- What 'spoilt' answers. -/
def SpoiltOut (b : Nat) (c : CaseId) (w : World) (e : Ending) (w' : World) : Prop :=
  ∃ v L, e = .returned v ∧ IvO (b + 1) w' v L ∧ L.length ≤ 5 ∧ CaseAt w' b c ∧ w.grownBy w' (some b)
theorem spoilt_done {b : Nat} {c : CaseId} {w w' : World} {v : Value} {n : Nat} {xs : List Value} (h : w'.ownsRow (b + 1) 57 7 v n xs) (hf : Flat xs n) (hn : n ≤ 5) (hc : CaseAt w' b c) (hg : w.grownBy w' (some b)) : SpoiltOut b c w (.returned v) w' := by
  obtain ⟨L, rfl, rfl⟩ := hf
  exact ⟨v, L, rfl, ⟨OwnI.at_ h (by omega), h⟩, hn, hc, hg⟩
/-- A change elsewhere, in memory that is younger than the case. -/
theorem case_by {w0 w w' : World} {b g : Nat} {c : CaseId} (h0 : CaseAt w0 b c) (h : CaseAt w b c) (hn : w0.heap.size ≤ g) (hg : w.grownBy w' (some g)) : CaseAt w' b c := by
  obtain ⟨pos, h⟩ := h
  obtain ⟨pos0, h0⟩ := h0
  have hb : b ≠ g := by have := h0.lt; omega
  refine ⟨pos, Nat.lt_of_lt_of_le h.lt hg.size, hg.cell h.c0 (by simp; exact hb), hg.cell h.c1 (by simp; exact hb), by rw [World.frozen?_of_block (w := w) (hg.block b h.lt (by simp; exact hb))]; exact h.f1, h.le, h.few, ?_⟩
  rcases h0.num with h0n | ⟨g0, off0, e0, h00, _⟩
  · exact .inl h0n
  · rcases h.num with hn' | ⟨g', off, e, h1, h2, h3⟩
    · exact .inl hn'
    · rw [e0] at e
      simp only [Option.some.injEq, Addr.mk.injEq] at e
      obtain ⟨rfl, rfl, -⟩ := e
      have hgg : g0 ≠ g := by omega
      exact .inr ⟨g0, off0, e0, Nat.lt_of_lt_of_le h1 hg.size, h2, fun i hi => let ⟨x, k1, k2⟩ := h3 i hi; ⟨x, hg.cell k1 (by simp; exact hgg), k2⟩⟩
theorem by_new {w0 w w' : World} {r : Option Nat} {g : Nat} (h : w0.grownBy w r) (hn : w0.heap.size ≤ g) (hg : w.grownBy w' (some g)) : w0.grownBy w' r :=
  ⟨hg.os.trans h.os, hg.tape.trans h.tape, hg.output.trans h.output, Nat.le_trans h.size hg.size, fun k hk hr => (hg.block k (Nat.lt_of_lt_of_le hk h.size) (by simp; omega)).trans (h.block k hk hr)⟩
/-- What stands in a spoilt list's world when one of its places is to be changed. -/
structure At7 (w : World) (g i : Nat) (x : I) : Prop where
  c0 : w.cell? ⟨g, i * 7, none⟩ = some (.int .i64 x.f.k)
  c1 : w.cell? ⟨g, i * 7 + 1, none⟩ = some (.int .i64 x.f.n)
  c2 : w.cell? ⟨g, i * 7 + 2, none⟩ = some (.string x.f.t)
  c3 : w.cell? ⟨g, i * 7 + 3, none⟩ = some (.int .i64 x.t.k)
  c4 : w.cell? ⟨g, i * 7 + 4, none⟩ = some (.int .i64 x.t.n)
  c5 : w.cell? ⟨g, i * 7 + 5, none⟩ = some (.string x.t.t)
  c6 : w.cell? ⟨g, i * 7 + 6, none⟩ = some (.bool x.o)
theorem at7 {base : Nat} {w : World} {g n cap : Nat} {L : List I} (h : w.ownsRow base 57 7 (.slice (some ⟨g, 0, none⟩) n cap) n (flatI L)) (hn : L.length = n) (i : Nat) (hi : i < n) : ∃ x, At7 w g i x := by
  obtain ⟨q0, q1, q2, q3, q4, q5, q6⟩ := flatI_at L i (by omega)
  exact ⟨L[i]'(by omega), (h.cellAt _ (by omega)).trans q0, (h.cellAt _ (by omega)).trans q1, (h.cellAt _ (by omega)).trans q2, (h.cellAt _ (by omega)).trans q3, (h.cellAt _ (by omega)).trans q4, (h.cellAt _ (by omega)).trans q5, (h.cellAt _ (by omega)).trans q6⟩
set_option maxHeartbeats 4000000 in
set_option maxRecDepth 100000 in
theorem spoilt_calls (b : Nat) (c : CaseId) (w : World) (hc : CaseAt w b c) : Calls Try.prog 8 #[.pointer (some ⟨b, 0, none⟩)] w (SpoiltOut b c w) := by
  obtain ⟨i, hi, hz, hsz, hby⟩ := info_parts info72
  have HI := Lib.hid hi
  have HZ := Lib.hid hz
  have HSZ := Lib.hid hsz
  have HBY := Lib.hid hby
  have mx := mixed
  have HG := Lib.hid (caseInterval_calls b c w hc)
  clear hi hz hsz hby hc
  go_enter Try.func8, Try.ntmps8
  go_wp2_with fail
  refine HG.out.mono ?_
  rintro e w1 ⟨v1, L, rfl, ho1, -, hl1, hc1, hb1⟩
  have hnews : ∃ ad cp, v1 = .slice ad L.length cp ∧ (ad = none → L.length = 0) ∧ ∀ q, ad = some q → ∀ j u, (flatI L)[j]? = some u → w1.cell? (q.add j) = some u := by
    rcases Joins.ownsRow_forms ho1 with ⟨rfl, h0⟩ | ⟨g, cp, rfl⟩
    · exact ⟨none, 0, by rw [h0], fun _ => h0, by simp⟩
    · exact ⟨_, cp, rfl, by simp, fun q hq => by obtain rfl := Option.some.inj hq; exact World.ownsRow.cells ho1 rfl⟩
  obtain ⟨ad, cp, rfl, hnone, hcells⟩ := hnews
  have HN := Lib.hid (And.intro hnone hcells)
  have HL1 := Lib.hid hl1
  have HC1 := Lib.hid hc1
  have HB1 := Lib.hid hb1
  have HONE : Hid (∀ u ∈ flatI L, u.oneCell' = true) := flatI_one L
  clear HG ho1 hl1 hc1 hb1 hnone hcells
  go_wp2_with (at_builtin; go_must (refine wpList_append_any rfl _ _ 23 rfl w1.heap.size 57 i (I.val ⟨⟨0, 0, ⟨#[]⟩⟩, ⟨0, 0, ⟨#[]⟩⟩, false⟩) 7 72 Try.underlying23 HI.out HZ.out HSZ.out HBY.out rfl (by decide) (.slice none 0 0) 0 [] rfl (World.ownsRow_nil _ _ _ _) ad L.length cp (flatI L) rfl HN.out.1 (flatI_length L) HN.out.2 HONE.out ?d0 ?d1 (Nat.le_refl _) ?_))
  case d0 => have := HL1.out; unfold maxLen; omega
  case d1 => have := HL1.out; omega
  intro v2 w2 hown2 hg2
  have hg2' : w1.grownBy w2 none := hg2
  have HC2 := Lib.hid (HC1.out.grown hg2')
  have HB2 := Lib.hid (by_trans HB1.out (by_some hg2' _))
  obtain ⟨a2, k2, rfl⟩ := ownsRow_slice hown2
  have HO2 := Lib.hid hown2
  have HS2 := Lib.hid hg2'.size
  generalize hn : L.length = n at HO2 HL1 ⊢
  have HLN := Lib.hid hn
  clear hown2 hg2 hg2' HN hn
  by_cases h0 : n = 0
  · subst h0
    go_wp2_with fail
    refine (any_calls b c _ HC2.out).mono ?_
    rintro e w3 ⟨⟨xk, xn, xt⟩, rfl, -, -, hc3, hb3⟩
    have HC3 := Lib.hid hc3
    have HB3 := Lib.hid (by_trans HB2.out hb3)
    clear hc3 hb3
    go_wp2_with fail
    refine (any_calls b c _ HC3.out).mono ?_
    rintro e w4 ⟨⟨yk, yn, yt⟩, rfl, -, -, hc4, hb4⟩
    have HC4 := Lib.hid hc4
    have HB4 := Lib.hid (by_trans HB3.out hb4)
    clear hc4 hb4
    go_wp2_with fail
    refine (boolN_calls b c 2 (by omega) (by omega) _ HC4.out).mono ?_
    rintro e w5 ⟨q, rfl, hc5, hb5⟩
    have HC5 := Lib.hid hc5
    have HB5 := Lib.hid (by_trans HB4.out hb5)
    clear hc5 hb5
    go_wp2
    go_ret
    exact spoilt_done (World.ownsRow_lit _ _ 1 HC5.out.lt (by decide) rfl) (flat_of [⟨⟨xk, xn, xt⟩, ⟨yk, yn, yt⟩, q⟩]) (by omega) (HC5.out.grown (World.grownBy_alloc _ _ none)) (by_trans HB5.out (World.grownBy_alloc _ _ _))
  · have hbeq : ((n : Int) == 0) = false := by simp; omega
    obtain ⟨g, cg, hv, hgb, hgl⟩ := World.ownsRow.form HO2.out (by omega)
    simp only [Value.slice.injEq, true_and] at hv
    obtain ⟨rfl, rfl⟩ := hv
    have HGB : Hid (w1.heap.size ≤ g) := hgb
    have HI2 := Lib.hid (int_calls b c n (by omega) (by have := HL1.out; omega) w2 HC2.out)
    clear hgb hgl
    go_wp2_with fail
    refine HI2.out.mono ?_
    rintro e w3 ⟨x, rfl, x0, x1, hc3, hb3⟩
    obtain ⟨m, rfl⟩ : ∃ m : Nat, x = m := ⟨x.toNat, by omega⟩
    have hm : m < n := by omega
    have HM := Lib.hid hm
    have HNE : Hid (some g ≠ some b) := by show _ ≠ _; have := HGB.out; have := HC1.out.lt; simp; omega
    have HC3 := Lib.hid hc3
    have HB3 := Lib.hid (by_trans HB2.out hb3)
    have HO3 := Lib.hid (HO2.out.kept hb3 (.inr HNE.out))
    clear hc3 hb3 x0 x1 hm HI2
    go_wp2_with fail
    refine (int_calls b c 7 (by omega) (by omega) _ HC3.out).mono ?_
    rintro e w4 ⟨x, rfl, x0, x1, hc4, hb4⟩
    have HC4 := Lib.hid hc4
    have HB4 := Lib.hid (by_trans HB3.out hb4)
    have HO4 := Lib.hid (HO3.out.kept hb4 (.inr HNE.out))
    have HL4 : Hid (n ≤ 4) := HL1.out
    have HLT : Hid (w.heap.size ≤ g) := Nat.le_trans HB1.out.size HGB.out
    clear hc4 hb4
    have i0 : (0 : Int) ≤ (m : Int) := by omega
    have i1 : (m : Int) < (n : Int) := by have := HM.out; omega
    have HE := Lib.hid (fun (w' : World) (v : Value) (xs : List Value) (N : Nat) (ho : w'.ownsRow w1.heap.size 57 7 v N xs) (hf : Flat xs N) (hn : N ≤ 5) (hg : w4.grownBy w' (some g)) =>
      spoilt_done (ownsRow_mono ho HC1.out.lt) hf hn (case_by HC1.out HC4.out HGB.out hg) (by_new HB4.out HLT.out hg))
    have hx : x = 0 ∨ x = 1 ∨ x = 2 ∨ x = 3 ∨ x = 4 ∨ x = 5 ∨ x = 6 := by omega
    clear x0 x1
    rcases hx with rfl | rfl | rfl | rfl | rfl | rfl | rfl
    · go_wp2_with fail
      refine (any_calls b c _ HC4.out).mono ?_
      rintro e w5 ⟨⟨xk, xn, xt⟩, rfl, -, -, hc5, hb5⟩
      have HC5 := Lib.hid hc5
      have HB5 := Lib.hid (by_trans HB4.out hb5)
      have HO5 := Lib.hid (HO4.out.kept hb5 (.inr HNE.out))
      clear hc5 hb5
      obtain ⟨y, hy⟩ := at7 HO5.out HLN.out m HM.out
      obtain ⟨c0, c1, c2, c3, c4, c5, c6⟩ := hy
      have fz0 := HO5.out.frozenAt (m * 7)
      have fz1 := HO5.out.frozenAt (m * 7 + 1)
      have fz2 := HO5.out.frozenAt (m * 7 + 2)
      go_wp2
      have s1 := HO5.out.stored (m * 7) (.int .i64 xk)
      have s2 := s1.1.stored (m * 7 + 1) (.int .i64 xn)
      have s3 := s2.1.stored (m * 7 + 2) (.string xt)
      have hg6 := by_trans (by_trans s1.2 s2.2) s3.2
      go_ret
      exact spoilt_done (ownsRow_mono s3.1 HC1.out.lt) ((((HLN.out ▸ flat_of L : Flat _ n).set0 HM.out xk).set1 HM.out xn).set2 HM.out xt) (by have := HL1.out; omega) (case_by HC1.out HC5.out HGB.out hg6) (by_new HB5.out HLT.out hg6)
    · go_wp2_with fail
      refine (any_calls b c _ HC4.out).mono ?_
      rintro e w5 ⟨⟨xk, xn, xt⟩, rfl, -, -, hc5, hb5⟩
      have HC5 := Lib.hid hc5
      have HB5 := Lib.hid (by_trans HB4.out hb5)
      have HO5 := Lib.hid (HO4.out.kept hb5 (.inr HNE.out))
      clear hc5 hb5
      obtain ⟨y, hy⟩ := at7 HO5.out HLN.out m HM.out
      obtain ⟨c0, c1, c2, c3, c4, c5, c6⟩ := hy
      have fz3 := HO5.out.frozenAt (m * 7 + 3)
      have fz4 := HO5.out.frozenAt (m * 7 + 3 + 1)
      have fz5 := HO5.out.frozenAt (m * 7 + 3 + 2)
      go_wp2
      have s1 := HO5.out.stored (m * 7 + 3) (.int .i64 xk)
      have s2 := s1.1.stored (m * 7 + 3 + 1) (.int .i64 xn)
      have s3 := s2.1.stored (m * 7 + 3 + 2) (.string xt)
      have hg6 := by_trans (by_trans s1.2 s2.2) s3.2
      go_ret
      exact spoilt_done (ownsRow_mono s3.1 HC1.out.lt) ((((HLN.out ▸ flat_of L : Flat _ n).set3 HM.out xk).set4 HM.out xn).set5 HM.out xt) (by have := HL1.out; omega) (case_by HC1.out HC5.out HGB.out hg6) (by_new HB5.out HLT.out hg6)
    · obtain ⟨y, hy⟩ := at7 HO4.out HLN.out m HM.out
      obtain ⟨⟨yk, yn, yt⟩, ⟨zk, zn, zt⟩, yo⟩ := y
      obtain ⟨c0, c1, c2, c3, c4, c5, c6⟩ := hy
      simp only at c0 c1 c2 c3 c4 c5 c6
      have fz := HO4.out.frozenAt (m * 7 + 6)
      go_wp2
      have s1 := HO4.out.stored (m * 7 + 6) (.bool (!yo))
      go_ret
      exact HE.out _ _ _ _ s1.1 ((HLN.out ▸ flat_of L : Flat _ n).set6 HM.out _) (by have := HL1.out; omega) s1.2
    · obtain ⟨y, hy⟩ := at7 HO4.out HLN.out m HM.out
      obtain ⟨⟨yk, yn, yt⟩, ⟨zk, zn, zt⟩, yo⟩ := y
      obtain ⟨c0, c1, c2, c3, c4, c5, c6⟩ := hy
      simp only at c0 c1 c2 c3 c4 c5 c6
      have HSG : Hid (w1.heap.size ≤ w4.heap.size) := by show _ ≤ _; have := (HO4.out.lt g rfl).2; have := HGB.out; omega
      go_wp2_with (at_builtin; go_must (refine wpList_append_own _ rfl _ _ 23 rfl w1.heap.size 57 i (I.val ⟨⟨0, 0, ⟨#[]⟩⟩, ⟨0, 0, ⟨#[]⟩⟩, false⟩) 7 72 Try.underlying23 HI.out HZ.out HSZ.out HBY.out rfl (by decide) _ n (flatI L) rfl (HO4.out.alloc _) ⟨w4.heap.size, 0, none⟩ 1 1 [.int .i64 yk, .int .i64 yn, .string yt, .int .i64 zk, .int .i64 zn, .string zt, .bool yo] rfl rfl (seven_at _ _ _ _ _ _ _ _ _ _ rfl) (by intro u hu; simp at hu; rcases hu with rfl | rfl | rfl | rfl | rfl | rfl | rfl <;> rfl) ?c3 ?c4 ?c5 ?_))
      case c3 => have := HL1.out; unfold maxLen; omega
      case c4 => have := HL1.out; omega
      case c5 => have := HSG.out; simp; omega
      rintro v5 w5 hown5 hg5 -
      have HO5 := Lib.hid hown5
      have HG5 : Hid (w4.grownBy w5 (some g)) := by_trans (World.grownBy_alloc _ _ _) hg5
      clear hown5 hg5
      go_wp2
      go_ret
      exact HE.out _ _ _ _ HO5.out ((HLN.out ▸ flat_of L : Flat _ n).snoc ⟨⟨yk, yn, yt⟩, ⟨zk, zn, zt⟩, yo⟩) (by have := HL4.out; omega) HG5.out
    · have hn4 : n = 1 ∨ n = 2 ∨ n = 3 ∨ n = 4 := by have := HL4.out; omega
      rcases hn4 with rfl | rfl | rfl | rfl
      · obtain ⟨y, hy⟩ := at7 HO4.out HLN.out 0 (by omega)
        obtain ⟨⟨yk, yn, yt⟩, ⟨uk, un, ut⟩, yo⟩ := y
        obtain ⟨e0, e1, e2, e3, e4, e5, e6⟩ := hy
        simp only [Nat.zero_mul, Nat.zero_add] at e0 e1 e2 e3 e4 e5 e6
        have hfz := fun j => (HO4.out.frozenAt j)
        have gz0 := hfz 0
        have gz1 := hfz 1
        have gz2 := hfz 2
        have gz3 := hfz 3
        have gz4 := hfz 4
        have gz5 := hfz 5
        have gz6 := hfz 6
        clear hfz i0 i1
        go_wp2_with fail
        go_region
        have s1 := HO4.out.stored 0 (.int .i64 yk)
        have s2 := s1.1.stored 1 (.int .i64 yn)
        have s3 := s2.1.stored 2 (.string yt)
        have s4 := s3.1.stored 3 (.int .i64 uk)
        have s5 := s4.1.stored 4 (.int .i64 un)
        have s6 := s5.1.stored 5 (.string ut)
        have s7 := s6.1.stored 6 (.bool yo)
        have s8 := s7.1.stored 0 (.int .i64 yk)
        have s9 := s8.1.stored 1 (.int .i64 yn)
        have s10 := s9.1.stored 2 (.string yt)
        have s11 := s10.1.stored 3 (.int .i64 uk)
        have s12 := s11.1.stored 4 (.int .i64 un)
        have s13 := s12.1.stored 5 (.string ut)
        have s14 := s13.1.stored 6 (.bool yo)
        have hg6 := by_trans (by_trans (by_trans (by_trans (by_trans (by_trans (by_trans (by_trans (by_trans (by_trans (by_trans (by_trans (by_trans (by_trans (s1.2) s2.2) s3.2) s4.2) s5.2) s6.2) s7.2) s8.2) s9.2) s10.2) s11.2) s12.2) s13.2) s14.2) (by_some (drew_by0 _) _)
        have hown := s14.1.drew
        have hfl := (((((((((((((((HLN.out ▸ flat_of L : Flat _ 1).set0 (i := 0) (by omega) yk).set1 (i := 0) (by omega) yn).set2 (i := 0) (by omega) yt).set3 (i := 0) (by omega) uk).set4 (i := 0) (by omega) un).set5 (i := 0) (by omega) ut).set6 (i := 0) (by omega) yo).set0 (i := 0) (by omega) yk).set1 (i := 0) (by omega) yn).set2 (i := 0) (by omega) yt).set3 (i := 0) (by omega) uk).set4 (i := 0) (by omega) un).set5 (i := 0) (by omega) ut).set6 (i := 0) (by omega) yo)
        simp only [Nat.reduceMul, Nat.reduceAdd, Nat.zero_mul, Nat.zero_add] at hfl
        clear s1 s2 s3 s4 s5 s6 s7 s8 s9 s10 s11 s12 s13 s14
        generalize World.drew _ = W6 at hown hg6 ⊢
        have HO6 := Lib.hid hown
        have HG6 := Lib.hid hg6
        have HFL := Lib.hid hfl
        clear hown hg6 hfl
        go_wp2
        go_ret
        exact HE.out _ _ _ _ HO6.out HFL.out (by omega) HG6.out
      · obtain ⟨y, hy⟩ := at7 HO4.out HLN.out 0 (by omega)
        obtain ⟨⟨yk, yn, yt⟩, ⟨uk, un, ut⟩, yo⟩ := y
        obtain ⟨e0, e1, e2, e3, e4, e5, e6⟩ := hy
        simp only [Nat.zero_mul, Nat.zero_add] at e0 e1 e2 e3 e4 e5 e6
        obtain ⟨z, hz⟩ := at7 HO4.out HLN.out 1 (by omega)
        obtain ⟨⟨zk, zn, zt⟩, ⟨vk, vn, vt⟩, zo⟩ := z
        obtain ⟨c0, c1, c2, c3, c4, c5, c6⟩ := hz
        simp only [Nat.reduceMul, Nat.reduceAdd] at c0 c1 c2 c3 c4 c5 c6
        have hfz := fun j => (HO4.out.frozenAt j)
        have gz0 := hfz 0
        have fz0 := hfz 7
        have gz1 := hfz 1
        have fz1 := hfz 8
        have gz2 := hfz 2
        have fz2 := hfz 9
        have gz3 := hfz 3
        have fz3 := hfz 10
        have gz4 := hfz 4
        have fz4 := hfz 11
        have gz5 := hfz 5
        have fz5 := hfz 12
        have gz6 := hfz 6
        have fz6 := hfz 13
        clear hfz i0 i1
        go_wp2_with fail
        go_region
        have s1 := HO4.out.stored 0 (.int .i64 zk)
        have s2 := s1.1.stored 1 (.int .i64 zn)
        have s3 := s2.1.stored 2 (.string zt)
        have s4 := s3.1.stored 3 (.int .i64 vk)
        have s5 := s4.1.stored 4 (.int .i64 vn)
        have s6 := s5.1.stored 5 (.string vt)
        have s7 := s6.1.stored 6 (.bool zo)
        have s8 := s7.1.stored 7 (.int .i64 yk)
        have s9 := s8.1.stored 8 (.int .i64 yn)
        have s10 := s9.1.stored 9 (.string yt)
        have s11 := s10.1.stored 10 (.int .i64 uk)
        have s12 := s11.1.stored 11 (.int .i64 un)
        have s13 := s12.1.stored 12 (.string ut)
        have s14 := s13.1.stored 13 (.bool yo)
        have hg6 := by_trans (by_trans (by_trans (by_trans (by_trans (by_trans (by_trans (by_trans (by_trans (by_trans (by_trans (by_trans (by_trans (by_trans (s1.2) s2.2) s3.2) s4.2) s5.2) s6.2) s7.2) s8.2) s9.2) s10.2) s11.2) s12.2) s13.2) s14.2) (by_some (drew_by0 _) _)
        have hown := s14.1.drew
        have hfl := (((((((((((((((HLN.out ▸ flat_of L : Flat _ 2).set0 (i := 0) (by omega) zk).set1 (i := 0) (by omega) zn).set2 (i := 0) (by omega) zt).set3 (i := 0) (by omega) vk).set4 (i := 0) (by omega) vn).set5 (i := 0) (by omega) vt).set6 (i := 0) (by omega) zo).set0 (i := 1) (by omega) yk).set1 (i := 1) (by omega) yn).set2 (i := 1) (by omega) yt).set3 (i := 1) (by omega) uk).set4 (i := 1) (by omega) un).set5 (i := 1) (by omega) ut).set6 (i := 1) (by omega) yo)
        simp only [Nat.reduceMul, Nat.reduceAdd, Nat.zero_mul, Nat.zero_add] at hfl
        clear s1 s2 s3 s4 s5 s6 s7 s8 s9 s10 s11 s12 s13 s14
        generalize World.drew _ = W6 at hown hg6 ⊢
        have HO6 := Lib.hid hown
        have HG6 := Lib.hid hg6
        have HFL := Lib.hid hfl
        clear hown hg6 hfl
        go_wp2
        go_ret
        exact HE.out _ _ _ _ HO6.out HFL.out (by omega) HG6.out
      · obtain ⟨y, hy⟩ := at7 HO4.out HLN.out 0 (by omega)
        obtain ⟨⟨yk, yn, yt⟩, ⟨uk, un, ut⟩, yo⟩ := y
        obtain ⟨e0, e1, e2, e3, e4, e5, e6⟩ := hy
        simp only [Nat.zero_mul, Nat.zero_add] at e0 e1 e2 e3 e4 e5 e6
        obtain ⟨z, hz⟩ := at7 HO4.out HLN.out 2 (by omega)
        obtain ⟨⟨zk, zn, zt⟩, ⟨vk, vn, vt⟩, zo⟩ := z
        obtain ⟨c0, c1, c2, c3, c4, c5, c6⟩ := hz
        simp only [Nat.reduceMul, Nat.reduceAdd] at c0 c1 c2 c3 c4 c5 c6
        have hfz := fun j => (HO4.out.frozenAt j)
        have gz0 := hfz 0
        have fz0 := hfz 14
        have gz1 := hfz 1
        have fz1 := hfz 15
        have gz2 := hfz 2
        have fz2 := hfz 16
        have gz3 := hfz 3
        have fz3 := hfz 17
        have gz4 := hfz 4
        have fz4 := hfz 18
        have gz5 := hfz 5
        have fz5 := hfz 19
        have gz6 := hfz 6
        have fz6 := hfz 20
        clear hfz i0 i1
        go_wp2_with fail
        go_region
        have s1 := HO4.out.stored 0 (.int .i64 zk)
        have s2 := s1.1.stored 1 (.int .i64 zn)
        have s3 := s2.1.stored 2 (.string zt)
        have s4 := s3.1.stored 3 (.int .i64 vk)
        have s5 := s4.1.stored 4 (.int .i64 vn)
        have s6 := s5.1.stored 5 (.string vt)
        have s7 := s6.1.stored 6 (.bool zo)
        have s8 := s7.1.stored 14 (.int .i64 yk)
        have s9 := s8.1.stored 15 (.int .i64 yn)
        have s10 := s9.1.stored 16 (.string yt)
        have s11 := s10.1.stored 17 (.int .i64 uk)
        have s12 := s11.1.stored 18 (.int .i64 un)
        have s13 := s12.1.stored 19 (.string ut)
        have s14 := s13.1.stored 20 (.bool yo)
        have hg6 := by_trans (by_trans (by_trans (by_trans (by_trans (by_trans (by_trans (by_trans (by_trans (by_trans (by_trans (by_trans (by_trans (by_trans (s1.2) s2.2) s3.2) s4.2) s5.2) s6.2) s7.2) s8.2) s9.2) s10.2) s11.2) s12.2) s13.2) s14.2) (by_some (drew_by0 _) _)
        have hown := s14.1.drew
        have hfl := (((((((((((((((HLN.out ▸ flat_of L : Flat _ 3).set0 (i := 0) (by omega) zk).set1 (i := 0) (by omega) zn).set2 (i := 0) (by omega) zt).set3 (i := 0) (by omega) vk).set4 (i := 0) (by omega) vn).set5 (i := 0) (by omega) vt).set6 (i := 0) (by omega) zo).set0 (i := 2) (by omega) yk).set1 (i := 2) (by omega) yn).set2 (i := 2) (by omega) yt).set3 (i := 2) (by omega) uk).set4 (i := 2) (by omega) un).set5 (i := 2) (by omega) ut).set6 (i := 2) (by omega) yo)
        simp only [Nat.reduceMul, Nat.reduceAdd, Nat.zero_mul, Nat.zero_add] at hfl
        clear s1 s2 s3 s4 s5 s6 s7 s8 s9 s10 s11 s12 s13 s14
        generalize World.drew _ = W6 at hown hg6 ⊢
        have HO6 := Lib.hid hown
        have HG6 := Lib.hid hg6
        have HFL := Lib.hid hfl
        clear hown hg6 hfl
        go_wp2
        go_ret
        exact HE.out _ _ _ _ HO6.out HFL.out (by omega) HG6.out
      · obtain ⟨y, hy⟩ := at7 HO4.out HLN.out 0 (by omega)
        obtain ⟨⟨yk, yn, yt⟩, ⟨uk, un, ut⟩, yo⟩ := y
        obtain ⟨e0, e1, e2, e3, e4, e5, e6⟩ := hy
        simp only [Nat.zero_mul, Nat.zero_add] at e0 e1 e2 e3 e4 e5 e6
        obtain ⟨z, hz⟩ := at7 HO4.out HLN.out 3 (by omega)
        obtain ⟨⟨zk, zn, zt⟩, ⟨vk, vn, vt⟩, zo⟩ := z
        obtain ⟨c0, c1, c2, c3, c4, c5, c6⟩ := hz
        simp only [Nat.reduceMul, Nat.reduceAdd] at c0 c1 c2 c3 c4 c5 c6
        have hfz := fun j => (HO4.out.frozenAt j)
        have gz0 := hfz 0
        have fz0 := hfz 21
        have gz1 := hfz 1
        have fz1 := hfz 22
        have gz2 := hfz 2
        have fz2 := hfz 23
        have gz3 := hfz 3
        have fz3 := hfz 24
        have gz4 := hfz 4
        have fz4 := hfz 25
        have gz5 := hfz 5
        have fz5 := hfz 26
        have gz6 := hfz 6
        have fz6 := hfz 27
        clear hfz i0 i1
        go_wp2_with fail
        go_region
        have s1 := HO4.out.stored 0 (.int .i64 zk)
        have s2 := s1.1.stored 1 (.int .i64 zn)
        have s3 := s2.1.stored 2 (.string zt)
        have s4 := s3.1.stored 3 (.int .i64 vk)
        have s5 := s4.1.stored 4 (.int .i64 vn)
        have s6 := s5.1.stored 5 (.string vt)
        have s7 := s6.1.stored 6 (.bool zo)
        have s8 := s7.1.stored 21 (.int .i64 yk)
        have s9 := s8.1.stored 22 (.int .i64 yn)
        have s10 := s9.1.stored 23 (.string yt)
        have s11 := s10.1.stored 24 (.int .i64 uk)
        have s12 := s11.1.stored 25 (.int .i64 un)
        have s13 := s12.1.stored 26 (.string ut)
        have s14 := s13.1.stored 27 (.bool yo)
        have hg6 := by_trans (by_trans (by_trans (by_trans (by_trans (by_trans (by_trans (by_trans (by_trans (by_trans (by_trans (by_trans (by_trans (by_trans (s1.2) s2.2) s3.2) s4.2) s5.2) s6.2) s7.2) s8.2) s9.2) s10.2) s11.2) s12.2) s13.2) s14.2) (by_some (drew_by0 _) _)
        have hown := s14.1.drew
        have hfl := (((((((((((((((HLN.out ▸ flat_of L : Flat _ 4).set0 (i := 0) (by omega) zk).set1 (i := 0) (by omega) zn).set2 (i := 0) (by omega) zt).set3 (i := 0) (by omega) vk).set4 (i := 0) (by omega) vn).set5 (i := 0) (by omega) vt).set6 (i := 0) (by omega) zo).set0 (i := 3) (by omega) yk).set1 (i := 3) (by omega) yn).set2 (i := 3) (by omega) yt).set3 (i := 3) (by omega) uk).set4 (i := 3) (by omega) un).set5 (i := 3) (by omega) ut).set6 (i := 3) (by omega) yo)
        simp only [Nat.reduceMul, Nat.reduceAdd, Nat.zero_mul, Nat.zero_add] at hfl
        clear s1 s2 s3 s4 s5 s6 s7 s8 s9 s10 s11 s12 s13 s14
        generalize World.drew _ = W6 at hown hg6 ⊢
        have HO6 := Lib.hid hown
        have HG6 := Lib.hid hg6
        have HFL := Lib.hid hfl
        clear hown hg6 hfl
        go_wp2
        go_ret
        exact HE.out _ _ _ _ HO6.out HFL.out (by omega) HG6.out
    · obtain ⟨y, hy⟩ := at7 HO4.out HLN.out m HM.out
      obtain ⟨⟨yk, yn, yt⟩, ⟨zk, zn, zt⟩, yo⟩ := y
      obtain ⟨c0, c1, c2, c3, c4, c5, c6⟩ := hy
      simp only at c0 c1 c2 c3 c4 c5 c6
      have fz := HO4.out.frozenAt (m * 7 + 1)
      go_wp2
      have s1 := HO4.out.stored (m * 7 + 1) (.int .i64 (wrap64 (yn + 1)))
      go_ret
      exact HE.out _ _ _ _ s1.1 ((HLN.out ▸ flat_of L : Flat _ n).set1 HM.out _) (by have := HL1.out; omega) s1.2
    · obtain ⟨y, hy⟩ := at7 HO4.out HLN.out m HM.out
      obtain ⟨⟨yk, yn, yt⟩, ⟨zk, zn, zt⟩, yo⟩ := y
      obtain ⟨c0, c1, c2, c3, c4, c5, c6⟩ := hy
      simp only at c0 c1 c2 c3 c4 c5 c6
      have fz := HO4.out.frozenAt (m * 7)
      go_wp2
      have s1 := HO4.out.stored (m * 7) (.int .i64 0)
      go_ret
      exact HE.out _ _ _ _ s1.1 ((HLN.out ▸ flat_of L : Flat _ n).set0 HM.out _) (by have := HL1.out; omega) s1.2
end Go.Proofs.Ytmjokpakekfkfaa
