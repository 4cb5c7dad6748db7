/- How a law's list of intervals is opened. -/
import Derived.Test.YtmjokpakekfkfaaVc
import Derived.Test.YtmjokpakekfkfaaO
import Derived.Test.YtmjokpakekfkfaaUc
set_option linter.unusedSimpArgs false
set_option linter.unusedVariables false
namespace Go.Proofs.Ytmjokpakekfkfaa
open Go.ChangeShapes Go.WideShapes Go.ChangeAt Go.RowKit Go.Joins Go.Deep

section
variable {H : Type} {enc : TypeId × Value → H} {w : World} {base : Nat} {spare : Nat → Bool} {held : Bool}
theorem cells57 : Try.prog.cellsOf 57 = 7 := by kernel_rfl
theorem cells4 : Try.prog.cellsOf 4 = 1 := by kernel_rfl
theorem bytes57 : Try.prog.bytesOf 57 = 72 := by kernel_rfl
theorem open_cells7 {n : Nat} {c0 c1 c2 c3 c4 c5 c6 : Value} {x : DataW H × List MemPlace} (h : DataW.trod enc Try.prog w base spare held n 57 [c0, c1, c2, c3, c4, c5, c6] = some x) :
    ∃ y : I, c0 = .int .i64 y.f.k ∧ c1 = .int .i64 y.f.n ∧ c2 = .string y.f.t ∧ c3 = .int .i64 y.t.k ∧ c4 = .int .i64 y.t.n ∧ c5 = .string y.t.t ∧ c6 = .bool y.o := by
  obtain ⟨y0, y1, y2, m, hx, _, h0, h1, h2⟩ := trod_struct3 Try.underlying57 h
  simp only [cells24, cells4] at h0 h1 h2
  obtain ⟨v, e0, e1, e2⟩ := open_cells3 (by simpa using h0)
  obtain ⟨u, e3, e4, e5⟩ := open_cells3 (by simpa using h1)
  obtain ⟨b, e6, rfl⟩ := DataW.trod_bool Try.underlying4 h2
  simp at e6
  exact ⟨⟨v, u, b⟩, e0, e1, e2, e3, e4, e5, e6⟩
theorem open_ivs_cells {cs : List Value} {n : Nat} {x : DataW H × List MemPlace} (h : DataW.trod enc Try.prog w base (fun _ => true) held n 23 cs = some x)
    (hsz : ∀ es sp, x.1 = .slice es sp → (es.length + sp.length) * 72 ≤ reachBytes) : ∃ v r, cs = [v] ∧ IvAt w v r := by
  rcases open_slice Try.underlying23 h with ⟨rfl, _⟩ | ⟨a, len, cap, m, n', D, Pl, rfl, hb, hl, hm, hmm, rfl, hel⟩
  · exact ⟨_, [], rfl, none, 0, rfl, by simp, .inl rfl⟩
  · simp only [if_true] at hmm
    subst hmm
    have hz := hsz _ _ rfl
    simp only [List.length_map, List.length_range, reachBytes] at hz
    have hall : ∀ i, i < len → ∃ c0 c1 c2 c3 c4 c5 c6 : Value, ∃ y : I, (c0 = .int .i64 y.f.k ∧ c1 = .int .i64 y.f.n ∧ c2 = .string y.f.t ∧ c3 = .int .i64 y.t.k ∧ c4 = .int .i64 y.t.n ∧ c5 = .string y.t.t ∧ c6 = .bool y.o) ∧
        w.cell? (a.add (i * 7 + 0)) = some c0 ∧ w.cell? (a.add (i * 7 + 1)) = some c1 ∧ w.cell? (a.add (i * 7 + 2)) = some c2 ∧ w.cell? (a.add (i * 7 + 3)) = some c3 ∧ w.cell? (a.add (i * 7 + 4)) = some c4 ∧ w.cell? (a.add (i * 7 + 5)) = some c5 ∧ w.cell? (a.add (i * 7 + 6)) = some c6 := by
      intro i hi
      obtain ⟨cs', h1, h2⟩ := hel i (by omega)
      rw [cells57] at h1
      obtain ⟨_, hlen, hc⟩ := World.cells?_some h1
      match cs', hlen with
      | [c0, c1, c2, c3, c4, c5, c6], _ =>
        obtain ⟨y, hy⟩ := open_cells7 h2
        have k0 := hc 0 (by omega)
        have k1 := hc 1 (by omega)
        have k2 := hc 2 (by omega)
        have k3 := hc 3 (by omega)
        have k4 := hc 4 (by omega)
        have k5 := hc 5 (by omega)
        have k6 := hc 6 (by omega)
        rw [add_add] at k0 k1 k2 k3 k4 k5 k6
        exact ⟨c0, c1, c2, c3, c4, c5, c6, y, hy, by simpa using k0, by simpa using k1, by simpa using k2, by simpa using k3, by simpa using k4, by simpa using k5, by simpa using k6⟩
    have hsp : 0 < len → a.block < w.heap.size ∧ a.spot = none := by
      intro h0
      obtain ⟨c0, c1, c2, c3, c4, c5, c6, y, -, k0, -⟩ := hall 0 h0
      have : a.add (0 * 7 + 0) = a := by simp [Addr.add]
      rw [this] at k0
      exact cell_lt k0
    have hex : ∀ i, i < len → ∃ y : I, IAt w a.block (a.off + i * 7) y := by
      intro i hi
      obtain ⟨c0, c1, c2, c3, c4, c5, c6, y, ⟨rfl, rfl, rfl, rfl, rfl, rfl, rfl⟩, k0, k1, k2, k3, k4, k5, k6⟩ := hall i hi
      have hs := (hsp (by omega)).2
      exact ⟨y, ⟨add_plain' k0 hs, by rw [Nat.add_assoc]; exact add_plain' k1 hs, by rw [Nat.add_assoc]; exact add_plain' k2 hs⟩, by rw [Nat.add_assoc]; exact add_plain' k3 hs, by rw [Nat.add_assoc]; exact add_plain' k4 hs, by rw [Nat.add_assoc]; exact add_plain' k5 hs, by rw [Nat.add_assoc]; exact add_plain' k6 hs⟩
    have hin : Inhabited I := ⟨⟨⟨0, 0, ByteArray.empty⟩, ⟨0, 0, ByteArray.empty⟩, false⟩⟩
    obtain ⟨F, hF⟩ := choose_lt hex
    refine ⟨_, (List.range len).map F, rfl, some a, _, by rw [List.length_map, List.length_range], by simp; omega, ?_⟩
    by_cases h0 : len = 0
    · left; simp [h0]
    · right
      obtain ⟨hlt, hs⟩ := hsp (by omega)
      obtain ⟨b, off, spot⟩ := a
      simp only at hs hlt
      subst hs
      exact ⟨b, off, rfl, hlt, fun i hi => by simpa using hF i (by simpa using hi)⟩

set_option maxRecDepth 100000 in
/-- A list of intervals that came in. -/
theorem open_Ivs {r : Reach} {b0 : Nat} {v : Value} {d : DataW H} {p : List MemPlace} (hv : Value.okWide Try.prog w r b0 23 v) (h : DataW.Trod enc Try.prog w base (fun _ => true) held 23 v d p)
    (hsz : ∀ es sp, d = .slice es sp → (es.length + sp.length) * 72 ≤ reachBytes) : ∃ r, IvAt w v r := by
  obtain ⟨a0, len0, cap0, rfl⟩ := okWide_slice Try.underlying23 hv
  obtain ⟨fuel, hf⟩ := h
  obtain ⟨v, r, hcs, hr⟩ := open_ivs_cells hf hsz
  simp [Value.cells] at hcs
  subst hcs
  exact ⟨r, hr⟩
theorem open_ivs_cut {cs : List Value} {n : Nat} {x : DataW H × List MemPlace} (h : DataW.trod enc Try.prog w base (fun _ => true) held n 23 cs = some x) :
    ∃ a len cap r, cs = [.slice a len cap] ∧ len ≤ cap ∧ cap ≤ maxLen ∧ r.length = min len 80 ∧ IvAt w (.slice a r.length cap) r := by
  rcases open_slice Try.underlying23 h with ⟨rfl, _⟩ | ⟨a, len, cap, m, n', D, Pl, rfl, hb, hl, hm, hmm, rfl, hel⟩
  · exact ⟨_, _, _, [], rfl, by omega, by simp, by simp, none, 0, rfl, by simp, .inl rfl⟩
  · simp only [if_true] at hmm
    subst hmm
    have hall : ∀ i, i < len → ∃ c0 c1 c2 c3 c4 c5 c6 : Value, ∃ y : I, (c0 = .int .i64 y.f.k ∧ c1 = .int .i64 y.f.n ∧ c2 = .string y.f.t ∧ c3 = .int .i64 y.t.k ∧ c4 = .int .i64 y.t.n ∧ c5 = .string y.t.t ∧ c6 = .bool y.o) ∧
        w.cell? (a.add (i * 7 + 0)) = some c0 ∧ w.cell? (a.add (i * 7 + 1)) = some c1 ∧ w.cell? (a.add (i * 7 + 2)) = some c2 ∧ w.cell? (a.add (i * 7 + 3)) = some c3 ∧ w.cell? (a.add (i * 7 + 4)) = some c4 ∧ w.cell? (a.add (i * 7 + 5)) = some c5 ∧ w.cell? (a.add (i * 7 + 6)) = some c6 := by
      intro i hi
      obtain ⟨cs', h1, h2⟩ := hel i (by omega)
      rw [cells57] at h1
      obtain ⟨_, hlen, hc⟩ := World.cells?_some h1
      match cs', hlen with
      | [c0, c1, c2, c3, c4, c5, c6], _ =>
        obtain ⟨y, hy⟩ := open_cells7 h2
        have k0 := hc 0 (by omega)
        have k1 := hc 1 (by omega)
        have k2 := hc 2 (by omega)
        have k3 := hc 3 (by omega)
        have k4 := hc 4 (by omega)
        have k5 := hc 5 (by omega)
        have k6 := hc 6 (by omega)
        rw [add_add] at k0 k1 k2 k3 k4 k5 k6
        exact ⟨c0, c1, c2, c3, c4, c5, c6, y, hy, by simpa using k0, by simpa using k1, by simpa using k2, by simpa using k3, by simpa using k4, by simpa using k5, by simpa using k6⟩
    have hsp : 0 < len → a.block < w.heap.size ∧ a.spot = none := by
      intro h0
      obtain ⟨c0, c1, c2, c3, c4, c5, c6, y, -, k0, -⟩ := hall 0 h0
      have : a.add (0 * 7 + 0) = a := by simp [Addr.add]
      rw [this] at k0
      exact cell_lt k0
    have hex : ∀ i, i < min len 80 → ∃ y : I, IAt w a.block (a.off + i * 7) y := by
      intro i hi
      obtain ⟨c0, c1, c2, c3, c4, c5, c6, y, ⟨rfl, rfl, rfl, rfl, rfl, rfl, rfl⟩, k0, k1, k2, k3, k4, k5, k6⟩ := hall i (by omega)
      have hs := (hsp (by omega)).2
      exact ⟨y, ⟨add_plain' k0 hs, by rw [Nat.add_assoc]; exact add_plain' k1 hs, by rw [Nat.add_assoc]; exact add_plain' k2 hs⟩, by rw [Nat.add_assoc]; exact add_plain' k3 hs, by rw [Nat.add_assoc]; exact add_plain' k4 hs, by rw [Nat.add_assoc]; exact add_plain' k5 hs, by rw [Nat.add_assoc]; exact add_plain' k6 hs⟩
    have hin : Inhabited I := ⟨⟨⟨0, 0, ByteArray.empty⟩, ⟨0, 0, ByteArray.empty⟩, false⟩⟩
    obtain ⟨F, hF⟩ := choose_lt hex
    refine ⟨some a, len, m, (List.range (min len 80)).map F, rfl, hl, hm, by simp, some a, m, rfl, by simp; omega, ?_⟩
    by_cases h0 : len = 0
    · left; simp [h0]
    · right
      obtain ⟨hlt, hs⟩ := hsp (by omega)
      obtain ⟨b, off, spot⟩ := a
      simp only at hs hlt
      subst hs
      exact ⟨b, off, rfl, hlt, fun i hi => by simpa using hF i (by simpa using hi)⟩
set_option maxRecDepth 100000 in
/-- A list of intervals that came in, of which a law takes the first 80. -/
theorem open_Ivs80 {r : Reach} {b0 : Nat} {v : Value} {d : DataW H} {p : List MemPlace} (hv : Value.okWide Try.prog w r b0 23 v) (h : DataW.Trod enc Try.prog w base (fun _ => true) held 23 v d p) :
    ∃ a len cap r, v = .slice a len cap ∧ len ≤ cap ∧ cap ≤ maxLen ∧ r.length = min len 80 ∧ IvAt w (.slice a r.length cap) r := by
  obtain ⟨a0, len0, cap0, rfl⟩ := okWide_slice Try.underlying23 hv
  obtain ⟨fuel, hf⟩ := h
  obtain ⟨a, len, cap, r, hcs, h1, h2, h3, h4⟩ := open_ivs_cut hf
  simp [Value.cells] at hcs
  obtain ⟨rfl, rfl, rfl⟩ := hcs
  exact ⟨_, _, _, r, rfl, h1, h2, h3, h4⟩
end
/-- A list that lies elsewhere than the case. -/
def IvX (cb : Nat) (w : World) (v : Value) (l : List I) : Prop :=
  ∃ (a : Option Addr) (cap : Nat), v = .slice a l.length cap ∧ l.length ≤ 4398046511104 ∧ (l = [] ∨ ∃ b off, a = some ⟨b, off, none⟩ ∧ b ≠ cb ∧ IvIn w b off l)
theorem IvX.at_ {cb : Nat} {w : World} {v : Value} {l : List I} (h : IvX cb w v l) : IvAt w v l :=
  let ⟨a, cap, h1, h2, h3⟩ := h; ⟨a, cap, h1, h2, h3.imp id fun ⟨b, off, k1, _, k3⟩ => ⟨b, off, k1, k3⟩⟩
theorem IvX.later {cb : Nat} {w w' : World} {v : Value} {l : List I} (h : IvX cb w v l) (hw : Below w.heap.size w w') : IvX cb w' v l :=
  let ⟨a, cap, h1, h2, h3⟩ := h; ⟨a, cap, h1, h2, h3.imp id fun ⟨b, off, k1, k2, k3⟩ => ⟨b, off, k1, k2, k3.later hw⟩⟩
theorem IvX.off {cb : Nat} {w w' : World} {v : Value} {l : List I} (h : IvX cb w v l) (hw : w.grownBy w' (some cb)) : IvX cb w' v l :=
  let ⟨a, cap, h1, h2, h3⟩ := h; ⟨a, cap, h1, h2, h3.imp id fun ⟨b, off, k1, k2, k3⟩ => ⟨b, off, k1, k2, Nat.lt_of_lt_of_le k3.blk hw.size, fun i hi =>
    let hx := k3.at_ i hi
    ⟨⟨hw.cell hx.f.k (by simp; exact k2), hw.cell hx.f.n (by simp; exact k2), hw.cell hx.f.t (by simp; exact k2)⟩, hw.cell hx.t0 (by simp; exact k2), hw.cell hx.t1 (by simp; exact k2), hw.cell hx.t2 (by simp; exact k2), hw.cell hx.o (by simp; exact k2)⟩⟩⟩
theorem IvX.of_old {cb : Nat} {w : World} {v : Value} {l : List I} (h : IvAt w v l) (hw : w.heap.size ≤ cb) : IvX cb w v l :=
  let ⟨a, cap, h1, h2, h3⟩ := h; ⟨a, cap, h1, h2, h3.imp id fun ⟨b, off, k1, k3⟩ => ⟨b, off, k1, by have := k3.blk; omega, k3⟩⟩
theorem IvX.of_own {cb : Nat} {w : World} {v : Value} {l : List I} (h : OwnI (cb + 1) w v l) (hl : l.length ≤ 4398046511104) : IvX cb w v l := by
  obtain ⟨a, cap, h1, h2, h3⟩ := OwnI.at_ h hl
  refine ⟨a, cap, h1, h2, h3.imp id fun ⟨b, off, k1, k3⟩ => ⟨b, off, k1, ?_, k3⟩⟩
  subst h1 k1
  have h4 := h.2
  rcases h4 with ⟨h5, _⟩ | ⟨g, c, cur, h5, h6, _⟩
  · simp at h5
  · simp only [Value.slice.injEq, Option.some.injEq, Addr.mk.injEq] at h5
    obtain ⟨⟨rfl, -, -⟩, -⟩ := h5
    omega
end Go.Proofs.Ytmjokpakekfkfaa
