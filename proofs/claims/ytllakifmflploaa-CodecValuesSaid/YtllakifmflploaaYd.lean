/- Openers of values and rows whose numbers are told to fit; what the encoders of values and rows leave, in one form. -/
import Derived.Test.YtllakifmflploaaYc
import Derived.Test.YtllakifmflploaaO
set_option linter.unusedSimpArgs false
set_option linter.unusedVariables false
namespace Go.Proofs.Ytllakifmflploaa
open Go.ChangeShapes Go.WideShapes Go.ChangeAt Go.RowKit Go.Joins Go.Deep

section
variable {H : Type} {enc : TypeId × Value → H} {w : World} {base : Nat} {spare : Nat → Bool} {held : Bool}
set_option maxRecDepth 100000 in
/-- A value that came in. -/
theorem open_Vn {r : Reach} {b0 : Nat} {v : Value} {d : DataW H} {p : List MemPlace} (hv : Value.okWide Try.prog w r b0 35 v) (h : DataW.Trod enc Try.prog w base spare held 35 v d p) :
    ∃ x : V, v = x.val ∧ isI64 x.n := by
  obtain ⟨c0, c1, c2, y0, y1, y2, m, rfl, rfl, rfl, hy0, hy1, hy2⟩ := open_agg3 Try.underlying35 (by kernel_rfl) cells24 hv h
  obtain ⟨a, e0, rfl, wa⟩ := DataW.trod_int Try.underlying3 hy0
  obtain ⟨b, e1, rfl, wb⟩ := DataW.trod_int Try.underlying2 hy1
  obtain ⟨s, e2, rfl, hsz⟩ := DataW.trod_string Try.underlying9 hy2
  simp at e0 e1 e2
  subst e0 e1 e2
  refine ⟨⟨a, b, s⟩, rfl, ?_⟩
  have := wb
  simpa [isI64, Lit.wf, IntKind.min, IntKind.max, IntKind.bits, IntKind.signed] using this
theorem open_cells3n {n : Nat} {c0 c1 c2 : Value} {x : DataW H × List MemPlace} (h : DataW.trod enc Try.prog w base spare held n 35 [c0, c1, c2] = some x) :
    ∃ v : V, c0 = .int .i64 v.k ∧ c1 = .int .i64 v.n ∧ c2 = .string v.t ∧ isI64 v.n := by
  obtain ⟨y0, y1, y2, m, hy0, hy1, hy2⟩ := open_three Try.underlying35 (by kernel_rfl) h
  obtain ⟨a, e0, rfl, wa⟩ := DataW.trod_int Try.underlying3 hy0
  obtain ⟨b, e1, rfl, wb⟩ := DataW.trod_int Try.underlying2 hy1
  obtain ⟨s, e2, rfl, hsz⟩ := DataW.trod_string Try.underlying9 hy2
  simp at e0 e1 e2
  exact ⟨⟨a, b, s⟩, e0, e1, e2, by simpa [isI64, Lit.wf, IntKind.min, IntKind.max, IntKind.bits, IntKind.signed] using wb⟩

theorem open_row_cellsn {cs : List Value} {n : Nat} {x : DataW H × List MemPlace} (h : DataW.trod enc Try.prog w base (fun _ => true) held n 25 cs = some x)
    (hsz : ∀ es sp, x.1 = .slice es sp → (es.length + sp.length) * 32 ≤ reachBytes) : ∃ v r, cs = [v] ∧ RowAt w v r ∧ ∀ y ∈ r, isI64 y.n := by
  rcases open_slice Try.underlying25 h with ⟨rfl, _⟩ | ⟨a, len, cap, m, n', D, Pl, rfl, hb, hl, hm, hmm, rfl, hel⟩
  · exact ⟨_, [], rfl, ⟨none, 0, rfl, by simp, .inl rfl⟩, by simp⟩
  · simp only [if_true] at hmm
    subst hmm
    have hz := hsz _ _ rfl
    simp only [List.length_map, List.length_range, reachBytes] at hz
    have hall : ∀ i, i < len → ∃ c0 c1 c2 : Value, ∃ v : V, c0 = .int .i64 v.k ∧ c1 = .int .i64 v.n ∧ c2 = .string v.t ∧ isI64 v.n ∧ w.cell? (a.add (i * 3 + 0)) = some c0 ∧ w.cell? (a.add (i * 3 + 1)) = some c1 ∧ w.cell? (a.add (i * 3 + 2)) = some c2 := by
      intro i hi
      obtain ⟨cs', h1, h2⟩ := hel i (by omega)
      rw [cells24] at h1
      obtain ⟨_, hlen, hc⟩ := World.cells?_some h1
      match cs', hlen with
      | [c0, c1, c2], _ =>
        obtain ⟨v, e0, e1, e2, e3⟩ := open_cells3n h2
        have k0 := hc 0 (by omega)
        have k1 := hc 1 (by omega)
        have k2 := hc 2 (by omega)
        rw [add_add] at k0 k1 k2
        exact ⟨c0, c1, c2, v, e0, e1, e2, e3, by simpa using k0, by simpa using k1, by simpa using k2⟩
    have hsp : 0 < len → a.block < w.heap.size ∧ a.spot = none := by
      intro h0
      obtain ⟨c0, c1, c2, v, e0, e1, e2, e3, k0, k1, k2⟩ := hall 0 h0
      have : a.add (0 * 3 + 0) = a := by simp [Addr.add]
      rw [this] at k0
      exact cell_lt k0
    have hex : ∀ i, i < len → ∃ v : V, At w a.block (a.off + i * 3) v ∧ isI64 v.n := by
      intro i hi
      obtain ⟨c0, c1, c2, v, rfl, rfl, rfl, e3, k0, k1, k2⟩ := hall i hi
      have hs := (hsp (by omega)).2
      exact ⟨v, ⟨add_plain' k0 hs, by rw [Nat.add_assoc]; exact add_plain' k1 hs, by rw [Nat.add_assoc]; exact add_plain' k2 hs⟩, e3⟩
    have hin : Inhabited V := ⟨⟨0, 0, ByteArray.empty⟩⟩
    obtain ⟨F, hF⟩ := choose_lt hex
    refine ⟨_, (List.range len).map F, rfl, ⟨some a, _, by rw [List.length_map, List.length_range], by simp; omega, ?_⟩, ?_⟩
    · by_cases h0 : len = 0
      · left; simp [h0]
      · right
        obtain ⟨hlt, hs⟩ := hsp (by omega)
        obtain ⟨b, off, spot⟩ := a
        simp only at hs hlt
        subst hs
        exact ⟨b, off, rfl, hlt, fun i hi => by simpa using (hF i (by simpa using hi)).1⟩
    · intro y hy
      obtain ⟨i, hi, rfl⟩ := List.mem_map.1 hy
      exact (hF i (by simpa using hi)).2

set_option maxRecDepth 100000 in
/-- A row that came in. -/
theorem open_Rown {r : Reach} {b0 : Nat} {v : Value} {d : DataW H} {p : List MemPlace} (hv : Value.okWide Try.prog w r b0 25 v) (h : DataW.Trod enc Try.prog w base (fun _ => true) held 25 v d p)
    (hsz : ∀ es sp, d = .slice es sp → (es.length + sp.length) * 32 ≤ reachBytes) : ∃ r, RowAt w v r ∧ ∀ y ∈ r, isI64 y.n := by
  obtain ⟨a0, len0, cap0, rfl⟩ := okWide_slice Try.underlying25 hv
  obtain ⟨fuel, hf⟩ := h
  obtain ⟨v, r, hcs, hr, hn⟩ := open_row_cellsn hf hsz
  simp [Value.cells] at hcs
  subst hcs
  exact ⟨r, hr, hn⟩
end
def valErr (x : V) : Int := if validB x = true then 0 else 10
def valBytes (bs : List UInt8) (x : V) : List UInt8 := if validB x = true then bs ++ encV x else []
theorem valOut_is {bs : List UInt8} {x : V} {w w' : World} {e : Ending} (h : ValOut bs x w e w') : ∃ v, e = .returned (.tuple #[v, .int .i64 (valErr x)]) ∧ BytesAt w' v (valBytes bs x) ∧ Below w.heap.size w w' := by
  unfold ValOut at h
  unfold valErr valBytes
  by_cases hv : validB x = true
  · rw [if_pos hv] at h ⊢
    rw [if_pos hv]
    obtain ⟨v, rfl, ho, hb⟩ := h
    exact ⟨v, rfl, ho.at_, hb⟩
  · rw [if_neg hv] at h ⊢
    rw [if_neg hv]
    obtain ⟨rfl, hb⟩ := h
    exact ⟨_, rfl, bytes_nil _, hb⟩
def rowErr (r : List V) : Int := if 12 < r.length then 2 else if r.all validB = true then 0 else 10
def rowBytes (bs : List UInt8) (r : List V) : List UInt8 := if 12 < r.length then [] else if r.all validB = true then bs ++ encR r else []
theorem rowOut_is {bs : List UInt8} {r : List V} {w w' : World} {e : Ending} (h : RowOut bs r w e w') : ∃ v, e = .returned (.tuple #[v, .int .i64 (rowErr r)]) ∧ BytesAt w' v (rowBytes bs r) ∧ Below w.heap.size w w' := by
  unfold RowOut at h
  unfold rowErr rowBytes
  by_cases hl : 12 < r.length
  · rw [if_pos hl] at h ⊢
    rw [if_pos hl]
    obtain ⟨rfl, hb⟩ := h
    exact ⟨_, rfl, bytes_nil _, hb⟩
  rw [if_neg hl] at h ⊢
  rw [if_neg hl]
  by_cases hv : r.all validB = true
  · rw [if_pos hv] at h ⊢
    rw [if_pos hv]
    obtain ⟨v, rfl, ho, hb⟩ := h
    exact ⟨v, rfl, ho.at_, hb⟩
  · rw [if_neg hv] at h ⊢
    rw [if_neg hv]
    obtain ⟨rfl, hb⟩ := h
    exact ⟨_, rfl, bytes_nil _, hb⟩
/-- partsynclaw02.part: what it returns lies where the argument lies. -/
theorem part_stays (v : Value) (bs : List UInt8) (w : World) (h : BytesAt w v bs) : Calls Try.prog 20 #[v] w fun e w' => ∃ v', e = .returned v' ∧ (∀ u, BytesAt u v bs → BytesAt u v' (bs.take 200)) ∧ w = w' := by
  obtain ⟨a, cap, rfl, hr, hm, hn, hl⟩ := bytes_value h
  have hm' : cap ≤ 9223372036854775807 := hm
  cases a with
  | none =>
    obtain rfl : cap = 0 := hn rfl
    have hb : bs = [] := List.eq_nil_of_length_eq_zero (by omega)
    subst hb
    have HP : Hid (∀ u, BytesAt u (.slice none 0 0) [] → BytesAt u (.slice none 0 0) (([] : List UInt8).take 200)) := fun u _ => ⟨none, 0, rfl, Nat.le_refl _, by simp, fun _ => rfl, .inl rfl⟩
    clear h hl
    go_enter Try.func20, Try.ntmps20
    go_wp2
    all_goals
      go_ret
      exact ⟨_, rfl, HP.out, rfl⟩
  | some a =>
    by_cases h200 : bs.length ≤ 200
    · have HP : Hid (∀ u, BytesAt u (.slice (some a) bs.length cap) bs → BytesAt u (.slice (some a) bs.length cap) (bs.take 200)) := by
        show ∀ u, _
        intro u hu
        have e : bs.take 200 = bs := List.take_of_length_le h200
        rw [e]; exact hu
      generalize bs.length = N at hr h200 HP
      have e0 : min (N : Int) 200 = (N : Int) := by omega
      have e1 : ¬ (200 : Int) < (N : Int) := by omega
      clear h hl
      go_enter Try.func20, Try.ntmps20
      go_wp2
      go_ret
      exact ⟨_, rfl, HP.out, rfl⟩
    · have HP : Hid (∀ u, BytesAt u (.slice (some a) bs.length cap) bs → BytesAt u (.slice (some a) 200 cap) (bs.take 200)) := fun u hu => hu.to_ 200 (by omega)
      generalize bs.length = N at hr h200 HP
      have e0 : min (N : Int) 200 = 200 := by omega
      have e1 : (200 : Int) < (N : Int) := by omega
      clear h hl
      go_enter Try.func20, Try.ntmps20
      go_wp2
      go_ret
      exact ⟨_, rfl, HP.out, rfl⟩
end Go.Proofs.Ytllakifmflploaa
