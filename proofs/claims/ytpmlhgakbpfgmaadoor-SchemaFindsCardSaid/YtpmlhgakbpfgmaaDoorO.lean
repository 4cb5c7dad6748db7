/- How a law's rows are opened. -/
import Derived.Test.YtpmlhgakbpfgmaaDoorE
import Derived.SizedLaws
import Derived.Deep.Slices
set_option linter.unusedSimpArgs false
set_option linter.unusedVariables false
namespace Go.Proofs.YtpmlhgakbpfgmaaDoor
open Go.ChangeShapes Go.WideShapes Go.ChangeAt Go.RowKit Go.Joins Go.Deep

theorem add_plain' {w : World} {a : Addr} {n : Nat} {v : Value} (h : w.cell? (a.add n) = some v) (hs : a.spot = none) : w.cell? ⟨a.block, a.off + n, none⟩ = some v := by
  rw [← h]
  congr 1
  unfold Addr.add
  split
  · obtain ⟨b, o, s⟩ := a
    simp only at hs
    subst hs
    simp_all
  · rfl
theorem cell_lt {w : World} {a : Addr} {v : Value} (h : w.cell? a = some v) : a.block < w.heap.size ∧ a.spot = none := by
  unfold World.cell? at h
  split at h
  · rename_i c _ _ hh
    refine ⟨(Array.getElem?_eq_some_iff.1 hh).1, ?_⟩
    split at h
    · simp at h
    · rename_i hs
      cases hh : a.spot with
      | none => rfl
      | some _ => rw [hh] at hs; simp at hs
  · simp at h

section
variable {H : Type} {enc : TypeId × Value → H} {w : World} {base : Nat} {spare : Nat → Bool} {held : Bool}
theorem bytes24 : Tryd.prog.bytesOf 56 = 32 := by kernel_rfl
theorem bytes38 : Tryd.prog.bytesOf 27 = 24 := by kernel_rfl
theorem open_three {P : Program} {t : TypeId} {f0 f1 f2 : Field} {n : Nat} {c0 c1 c2 : Value} {x : DataW H × List MemPlace} (hs : P.underlying t = some (.struct #[f0, f1, f2])) (hone : oneCellFields P #[f0, f1, f2] = true)
    (h : DataW.trod enc P w base spare held n t [c0, c1, c2] = some x) :
    ∃ (y0 y1 y2 : DataW H × List MemPlace) (m : Nat), DataW.trod enc P w base spare held m f0.type [c0] = some y0 ∧ DataW.trod enc P w base spare held m f1.type [c1] = some y1 ∧ DataW.trod enc P w base spare held m f2.type [c2] = some y2 := by
  obtain ⟨y0, y1, y2, m, hx, _, h0, h1, h2⟩ := trod_struct3 hs h
  obtain ⟨o0, k0⟩ := hone_of hone 0 f0 rfl
  obtain ⟨o1, k1⟩ := hone_of hone 1 f1 rfl
  obtain ⟨o2, k2⟩ := hone_of hone 2 f2 rfl
  exact ⟨y0, y1, y2, m, by simpa [o0, k0] using h0, by simpa [o1, k1] using h1, by simpa [o2, k2] using h2⟩
theorem open_cells3 {n : Nat} {c0 c1 c2 : Value} {x : DataW H × List MemPlace} (h : DataW.trod enc Tryd.prog w base spare held n 56 [c0, c1, c2] = some x) :
    ∃ v : V, c0 = .int .i64 v.k ∧ c1 = .int .i64 v.n ∧ c2 = .string v.t := by
  obtain ⟨y0, y1, y2, m, hy0, hy1, hy2⟩ := open_three Tryd.underlying56 (by kernel_rfl) h
  obtain ⟨a, e0, rfl, wa⟩ := DataW.trod_int Tryd.underlying3 hy0
  obtain ⟨b, e1, rfl, wb⟩ := DataW.trod_int Tryd.underlying2 hy1
  obtain ⟨s, e2, rfl, hsz⟩ := DataW.trod_string Tryd.underlying9 hy2
  simp at e0 e1 e2
  exact ⟨⟨a, b, s⟩, e0, e1, e2⟩

theorem open_row_cells {cs : List Value} {n : Nat} {x : DataW H × List MemPlace} (h : DataW.trod enc Tryd.prog w base (fun _ => true) held n 27 cs = some x)
    (hsz : ∀ es sp, x.1 = .slice es sp → (es.length + sp.length) * 32 ≤ reachBytes) : ∃ v r, cs = [v] ∧ RowAt w v r := by
  rcases open_slice Tryd.underlying27 h with ⟨rfl, _⟩ | ⟨a, len, cap, m, n', D, Pl, rfl, hb, hl, hm, hmm, rfl, hel⟩
  · exact ⟨_, [], rfl, none, 0, rfl, by simp, .inl rfl⟩
  · simp only [if_true] at hmm
    subst hmm
    have hz := hsz _ _ rfl
    simp only [List.length_map, List.length_range, reachBytes] at hz
    have hall : ∀ i, i < len → ∃ c0 c1 c2 : Value, ∃ v : V, c0 = .int .i64 v.k ∧ c1 = .int .i64 v.n ∧ c2 = .string v.t ∧ w.cell? (a.add (i * 3 + 0)) = some c0 ∧ w.cell? (a.add (i * 3 + 1)) = some c1 ∧ w.cell? (a.add (i * 3 + 2)) = some c2 := by
      intro i hi
      obtain ⟨cs', h1, h2⟩ := hel i (by omega)
      rw [cells24] at h1
      obtain ⟨_, hlen, hc⟩ := World.cells?_some h1
      match cs', hlen with
      | [c0, c1, c2], _ =>
        obtain ⟨v, e0, e1, e2⟩ := open_cells3 h2
        have k0 := hc 0 (by omega)
        have k1 := hc 1 (by omega)
        have k2 := hc 2 (by omega)
        rw [add_add] at k0 k1 k2
        exact ⟨c0, c1, c2, v, e0, e1, e2, by simpa using k0, by simpa using k1, by simpa using k2⟩
    have hsp : 0 < len → a.block < w.heap.size ∧ a.spot = none := by
      intro h0
      obtain ⟨c0, c1, c2, v, e0, e1, e2, k0, k1, k2⟩ := hall 0 h0
      have : a.add (0 * 3 + 0) = a := by simp [Addr.add]
      rw [this] at k0
      exact cell_lt k0
    have hex : ∀ i, i < len → ∃ v : V, At w a.block (a.off + i * 3) v := by
      intro i hi
      obtain ⟨c0, c1, c2, v, rfl, rfl, rfl, k0, k1, k2⟩ := hall i hi
      have hs := (hsp (by omega)).2
      exact ⟨v, ⟨add_plain' k0 hs, by rw [Nat.add_assoc]; exact add_plain' k1 hs, by rw [Nat.add_assoc]; exact add_plain' k2 hs⟩⟩
    have hin : Inhabited V := ⟨⟨0, 0, ByteArray.empty⟩⟩
    obtain ⟨F, hF⟩ := choose_lt hex
    refine ⟨_, (List.range len).map F, rfl, some a, _, by rw [List.length_map, List.length_range], by simp; omega, ?_⟩
    by_cases h0 : len = 0
    · left; simp [h0]
    · right
      obtain ⟨hlt, hs⟩ := hsp (by omega)
      obtain ⟨b, off, spot⟩ := a
      simp only at hs hlt
      subst hs
      exact ⟨b, off, rfl, hlt, fun i hi => by simpa using hF i (by simpa using hi)⟩

set_option maxRecDepth 100000 in
/-- A row that came in. -/
theorem open_Row {r : Reach} {b0 : Nat} {v : Value} {d : DataW H} {p : List MemPlace} (hv : Value.okWide Tryd.prog w r b0 27 v) (h : DataW.Trod enc Tryd.prog w base (fun _ => true) held 27 v d p)
    (hsz : ∀ es sp, d = .slice es sp → (es.length + sp.length) * 32 ≤ reachBytes) : ∃ r, RowAt w v r := by
  obtain ⟨a0, len0, cap0, rfl⟩ := okWide_slice Tryd.underlying27 hv
  obtain ⟨fuel, hf⟩ := h
  obtain ⟨v, r, hcs, hr⟩ := open_row_cells hf hsz
  simp [Value.cells] at hcs
  subst hcs
  exact ⟨r, hr⟩
end
end Go.Proofs.YtpmlhgakbpfgmaaDoor
