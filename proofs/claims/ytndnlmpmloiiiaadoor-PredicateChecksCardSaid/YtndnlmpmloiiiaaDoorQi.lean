/- How numbers that came in are opened. -/
import Derived.Test.YtndnlmpmloiiiaaDoorQo
set_option linter.unusedSimpArgs false
set_option linter.unusedVariables false
namespace Go.Proofs.YtndnlmpmloiiiaaDoor
open Go.ChangeShapes Go.WideShapes Go.ChangeAt Go.RowKit Go.Joins Go.Deep

section
variable {H : Type} {enc : TypeId × Value → H} {w : World} {base : Nat} {spare : Nat → Bool} {held : Bool}
theorem bytesI : Tryd.prog.bytesOf 3 = 8 := by kernel_rfl
theorem cellsI : Tryd.prog.cellsOf 3 = 1 := by kernel_rfl
theorem open_ints_cells {cs : List Value} {n : Nat} {x : DataW H × List MemPlace} (h : DataW.trod enc Tryd.prog w base (fun _ => true) held n 30 cs = some x)
    (hsz : ∀ es sp, x.1 = .slice es sp → (es.length + sp.length) * 8 ≤ reachBytes) : ∃ v l, cs = [v] ∧ IntsAt (fun _ => True) w v l := by
  rcases open_slice Tryd.underlying30 h with ⟨rfl, _⟩ | ⟨a, len, cap, m, n', D, Pl, rfl, hb, hl, hm, hmm, rfl, hel⟩
  · exact ⟨_, [], rfl, IntsAt.nil none 0⟩
  · simp only [if_true] at hmm
    subst hmm
    have hz := hsz _ _ rfl
    simp only [List.length_map, List.length_range, reachBytes] at hz
    have hall : ∀ i, i < len → ∃ k : Int, w.cell? (a.add i) = some (.int .i64 k) := by
      intro i hi
      obtain ⟨cs', h1, h2⟩ := hel i (by omega)
      rw [cellsI] at h1
      obtain ⟨_, hlen, hc⟩ := World.cells?_some h1
      match cs', hlen with
      | [c0], _ =>
        obtain ⟨k, e0, -, wk⟩ := DataW.trod_int Tryd.underlying3 h2
        have k0 := hc 0 (by omega)
        rw [add_add] at k0
        simp at e0
        subst e0
        exact ⟨k, by simpa using k0⟩
    have hsp : 0 < len → a.block < w.heap.size ∧ a.spot = none := by
      intro h0
      obtain ⟨k, k0⟩ := hall 0 h0
      have : a.add 0 = a := by simp [Addr.add]
      rw [this] at k0
      exact cell_lt k0
    have hex : ∀ i, i < len → ∃ k : Int, w.cell? ⟨a.block, a.off + i, none⟩ = some (.int .i64 k) := by
      intro i hi
      obtain ⟨k, k0⟩ := hall i hi
      exact ⟨k, add_plain' k0 (hsp (by omega)).2⟩
    obtain ⟨F, hF⟩ := choose_lt hex
    refine ⟨_, (List.range len).map F, rfl, some a, _, by rw [List.length_map, List.length_range], by simp; omega, ?_⟩
    by_cases h0 : len = 0
    · left; simp [h0]
    · right
      obtain ⟨hlt, hs⟩ := hsp (by omega)
      obtain ⟨b, off, spot⟩ := a
      simp only at hs hlt
      subst hs
      exact ⟨b, off, rfl, hlt, trivial, fun i hi => by simpa using hF i (by simpa using hi)⟩
set_option maxRecDepth 100000 in
/-- Numbers that came in. -/
theorem open_Ints {r : Reach} {b0 : Nat} {v : Value} {d : DataW H} {p : List MemPlace} (hv : Value.okWide Tryd.prog w r b0 30 v) (h : DataW.Trod enc Tryd.prog w base (fun _ => true) held 30 v d p)
    (hsz : ∀ es sp, d = .slice es sp → (es.length + sp.length) * 8 ≤ reachBytes) : ∃ l, IntsAt (fun _ => True) w v l := by
  obtain ⟨a0, len0, cap0, rfl⟩ := okWide_slice Tryd.underlying30 hv
  obtain ⟨fuel, hf⟩ := h
  obtain ⟨v, l, hcs, hr⟩ := open_ints_cells hf hsz
  simp [Value.cells] at hcs
  subst hcs
  exact ⟨l, hr⟩

end
end Go.Proofs.YtndnlmpmloiiiaaDoor
