/- How a law's list of rows is opened, and appending whatever slice. -/
import Derived.Test.YtmjokpakekfkfaaO
import Derived.Test.YtmjokpakekfkfaaP
set_option linter.unusedSimpArgs false
set_option linter.unusedVariables false
namespace Go.Proofs.Ytmjokpakekfkfaa
open Go.ChangeShapes Go.WideShapes Go.ChangeAt Go.RowKit Go.Joins Go.Deep

section
variable {H : Type} {enc : TypeId × Value → H} {w : World} {base : Nat} {spare : Nat → Bool} {held : Bool}

theorem weights_all {P : Program} {e : TypeId} {l : List (DataW H)} {d : DataW H} (hd : d ∈ l) {n : Nat} (hn : n ∈ d.weights P e) : n ∈ DataW.weightsAll P e l := by
  induction l with
  | nil => cases hd
  | cons x l ih =>
    rw [DataW.weightsAll, List.mem_append]
    rcases List.mem_cons.1 hd with h | h
    · subst h; exact .inl hn
    · exact .inr (ih h)
theorem cells38 : Try.prog.cellsOf 88 = 1 := by kernel_rfl
set_option maxRecDepth 100000 in
/-- The first rows of a list that came in. -/
theorem open_Rows {r : Reach} {b0 : Nat} {v : Value} {d : DataW H} {p : List MemPlace} (hv : Value.okWide Try.prog w r b0 87 v) (h : DataW.Trod enc Try.prog w base (fun _ => true) held 87 v d p)
    (hsz : ∀ n ∈ d.weights Try.prog 87, n ≤ reachBytes) :
    ∃ (a : Option Addr) (len cap : Nat), v = .slice a len cap ∧ len ≤ cap ∧ cap ≤ maxLen ∧ (a = none → len = 0 ∧ cap = 0) ∧
      ∃ rs : List (List V), rs.length = min len 8 ∧ (rs = [] ∨ ∃ b off, a = some ⟨b, off, none⟩ ∧ RowsIn w b off rs) := by
  obtain ⟨a0, len0, cap0, rfl⟩ := okWide_slice Try.underlying87 hv
  obtain ⟨fuel, hf⟩ := h
  rcases open_slice1 Try.underlying87 cells38 hf with ⟨hcs, _⟩ | ⟨a, len, cap, m, n', W, D, Pl, hcs, hb, hl, hm, hmm, hx, hel⟩
  · simp [Value.cells] at hcs
    obtain ⟨rfl, rfl, rfl⟩ := hcs
    exact ⟨_, _, _, rfl, by omega, by simp, fun _ => ⟨rfl, rfl⟩, [], by simp, .inl rfl⟩
  · simp [Value.cells] at hcs
    obtain ⟨rfl, rfl, rfl⟩ := hcs
    simp only [if_true] at hmm
    subst hmm
    simp only [Prod.mk.injEq] at hx
    obtain ⟨hd, -⟩ := hx
    refine ⟨_, _, _, rfl, hl, hm, by simp, ?_⟩
    have hex : ∀ i, i < len0 → ∃ r : List V, w.cell? (a.add i) = some (W i) ∧ RowAt w (W i) r := by
      intro i hi
      obtain ⟨h1, h2⟩ := hel i (by omega)
      obtain ⟨v, r, e, hr⟩ := open_row_cells h2 (fun es sp he => by
        have hmem : D i ∈ (List.range len0).map D := List.mem_map.2 ⟨i, List.mem_range.2 hi, rfl⟩
        have hw : (es.length + sp.length) * Try.prog.bytesOf 25 ∈ (D i).weights Try.prog 88 := by
          simp only at he
          rw [he]; simp [DataW.weights, Try.underlying88]
        have := hsz ((es.length + sp.length) * Try.prog.bytesOf 25) (by
          rw [hd]
          simp only [DataW.weights, Try.underlying87, List.mem_cons, List.mem_append]
          exact .inr (.inl (weights_all hmem hw)))
        rwa [bytes24] at this)
      simp at e
      subst e
      exact ⟨r, h1, hr⟩
    have hin : Inhabited (List V) := ⟨[]⟩
    obtain ⟨F, hF⟩ := choose_lt hex
    refine ⟨(List.range (min len0 8)).map F, by simp, ?_⟩
    by_cases h0 : len0 = 0
    · left; simp [h0]
    · right
      have hc0 := (hF 0 (by omega)).1
      have : a.add 0 = a := by simp [Addr.add]
      rw [this] at hc0
      obtain ⟨hlt, hs⟩ := cell_lt hc0
      obtain ⟨b, off, spot⟩ := a
      simp only at hs hlt
      subst hs
      refine ⟨b, off, rfl, hlt, fun i hi => ?_⟩
      have hi' : i < len0 := by simp at hi; omega
      obtain ⟨h1, h2⟩ := hF i hi'
      exact ⟨W i, add_plain' h1 rfl, by simpa using h2⟩
end

theorem run_append_none {w : World} (base : Nat) (t ty e : TypeId) (i : TypeInfo) (size : Nat) (c : Nat) (ht : Try.prog.underlying t = some (.slice e)) (hi : Try.prog.info? e = some i)
    (v : Value) (n : Nat) (xs : List Value) (hown : w.ownsRow base e size v n xs) :
    (Builtin.append_ #[t, t] ty #[v, .slice none 0 c]).run Try.prog w = .ok v w := by
  rcases hown.2 with ⟨rfl, rfl⟩ | ⟨g, cap, cur, rfl, _, _, hnc, _⟩
  · simp [Builtin.append_, run_underlying ht, sizeOf, typeInfo, hi, Builtin.lenOf, Builtin.firstCells]
  · simp [Builtin.append_, run_underlying ht, sizeOf, typeInfo, hi, Builtin.lenOf, Builtin.firstCells, hnc, storeCells]
theorem wpList_append_any {w : World} {ops : Array Oper} {rest : List Oper} {o : Oper} {a : Act} {Q : Exit → Act → World → Prop} (hgd : o.guard = none) (s x : Operand) (t : TypeId)
    (ho : o.op = .call { callee := .builtin .append, args := #[s, x], argTypes := #[t, t] })
    (base : Nat) (e : TypeId) (i : TypeInfo) (z : Value) (size bytes : Nat) (ht : Try.prog.underlying t = some (.slice e)) (hi : Try.prog.info? e = some i) (hz : i.zero = some z)
    (hsize : i.size = size) (hby : i.bytes = bytes) (hzs : z.cells.size = size) (hsz : 0 < size)
    (v : Value) (n : Nat) (xs : List Value) (hs : a.eval s = v) (hown : w.ownsRow base e size v n xs)
    (ad : Option Addr) (m c : Nat) (news : List Value) (hx : a.eval x = .slice ad m c) (hnone : ad = none → m = 0) (hl : news.length = m * size) (hnews : ∀ b, ad = some b → ∀ j u, news[j]? = some u → w.cell? (b.add j) = some u) (h1 : ∀ u ∈ news, u.oneCell' = true)
    (h63 : n + m ≤ maxLen) (hbytes : (n + m) * bytes ≤ 140737488355328) (hbase : base ≤ w.heap.size)
    (h : ∀ v' w', w'.ownsRow base e size v' (n + m) (xs ++ news) → w.grownBy w' v.ownBlock → wpList Try.prog ops Q rest (a.put o.dst v') w') : wpList Try.prog ops Q (o :: rest) a w := by
  cases ad with
  | none =>
    obtain rfl := hnone rfl
    obtain rfl : news = [] := List.eq_nil_of_length_eq_zero (by omega)
    refine wpList_plain hgd fun K hK => ?_
    have hrun := run_append_none (w := w) base t o.type e i size c ht hi v n xs hown
    unfold Oper.wp
    simp [execOp, ho, resolve, invoke, builtin, hs, hx, hrun, Result.andThen]
    exact hK _ _ (h v w (by simpa using hown) ⟨rfl, rfl, rfl, Nat.le_refl _, fun _ _ _ => rfl⟩)
  | some b => exact wpList_append_own _ hgd s x t ho base e i z size bytes ht hi hz hsize hby hzs hsz v n xs hs hown b m c news hx hl (hnews b rfl) h1 h63 hbytes hbase fun v' w' h2 h3 _ => h v' w' h2 h3

/-- A list of rows whose outer row the call owns. -/
def Listed (base : Nat) (w : World) (v : Value) (L : List (List V)) (xs : List Value) : Prop :=
  w.ownsRow base 88 1 v L.length xs ∧ ∀ j (h : j < L.length), ∃ u, xs[j]? = some u ∧ RowAt w u L[j]
theorem Listed.at_ {base : Nat} {w : World} {v : Value} {L : List (List V)} {xs : List Value} (h : Listed base w v L xs) (hl : L.length ≤ 4398046511104) : RowsAt w v L := by
  obtain ⟨ho, hi⟩ := h
  have h0 := ho
  obtain ⟨hx, hv | ⟨g, cap, cur, hv, hg, hh, hcap, hm, hs, ht⟩⟩ := ho
  · obtain ⟨rfl, hn⟩ := hv
    obtain rfl : L = [] := List.eq_nil_of_length_eq_zero hn
    exact ⟨none, 0, rfl, by simp, .inl rfl⟩
  · subst hv
    refine ⟨some ⟨g, 0, none⟩, cap, rfl, hl, .inr ⟨g, 0, rfl, (Array.getElem?_eq_some_iff.1 hh).1, fun i h => ?_⟩⟩
    obtain ⟨u, h1, h2⟩ := hi i h
    exact ⟨u, by rw [Nat.zero_add, h0.cellAt i (by omega), h1], h2⟩
/-- Rows behind rows. -/
theorem listed_append {base : Nat} {w2 : World} {v' : Value} {A B : List (List V)} {xs ys : List Value} (ho : w2.ownsRow base 88 1 v' (A.length + B.length) (xs ++ ys)) (hx : xs.length = A.length)
    (ha : ∀ j (h : j < A.length), ∃ u, xs[j]? = some u ∧ RowAt w2 u A[j]) (hb : ∀ j (h : j < B.length), ∃ u, ys[j]? = some u ∧ RowAt w2 u B[j]) : Listed base w2 v' (A ++ B) (xs ++ ys) := by
  refine ⟨by rw [List.length_append]; exact ho, fun j hj => ?_⟩
  by_cases h : j < A.length
  · obtain ⟨u, h1, h2⟩ := ha j h
    exact ⟨u, by rw [List.getElem?_append, if_pos (by omega)]; exact h1, by rw [List.getElem_append_left h]; exact h2⟩
  · have hj' : j - A.length < B.length := by simp at hj; omega
    obtain ⟨u, h1, h2⟩ := hb _ hj'
    exact ⟨u, by rw [List.getElem?_append, if_neg (by omega), hx]; exact h1, by rw [List.getElem_append_right (by omega)]; exact h2⟩
end Go.Proofs.Ytmjokpakekfkfaa
