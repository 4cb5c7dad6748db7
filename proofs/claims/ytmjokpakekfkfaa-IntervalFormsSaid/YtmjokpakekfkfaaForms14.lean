import Derived.Test.YtmjokpakekfkfaaForms13
import Derived.SizedLaws
import Derived.ChangeMaps5
/- How a law's list of intervals is opened. -/
set_option linter.unusedSimpArgs false
set_option linter.unusedVariables false
namespace Go.Proofs.Ytmjokpakekfkfaa
open Go.ChangeShapes Go.WideShapes Go.ChangeAt Go.RowKit Go.Joins Go.Deep

section
variable {H : Type} {enc : TypeId × Value → H} {w : World} {base : Nat} {spare : Nat → Bool} {held : Bool}
theorem cells57 : Try.prog.cellsOf 57 = 7 := by kernel_rfl
theorem cells4 : Try.prog.cellsOf 4 = 1 := by kernel_rfl
theorem bytes57 : Try.prog.bytesOf 57 = 72 := by kernel_rfl
theorem open_cells7 {n : Nat} {c0 c1 c2 c3 c4 c5 c6 : Value} {x : DataW H × List MemPlace} (h : DataW.trod enc Try.prog w base spare held n 57 [c0, c1, c2, c3, c4, c5, c6] = some x) :
    ∃ y : I, c0 = .int .i64 y.f.k ∧ c1 = .int .i64 y.f.n ∧ c2 = .string y.f.t ∧ c3 = .int .i64 y.t.k ∧ c4 = .int .i64 y.t.n ∧ c5 = .string y.t.t ∧ c6 = .bool y.o := by
  obtain ⟨y0, y1, y2, m, hx, _, h0, h1, h2⟩ := trod_struct3 Try.underlying57 h
  simp only [cells24, cells4] at h0 h1 h2
  obtain ⟨v, e0, e1, e2⟩ := open_cells3 (by simpa using h0)
  obtain ⟨u, e3, e4, e5⟩ := open_cells3 (by simpa using h1)
  obtain ⟨b, e6, rfl⟩ := DataW.trod_bool Try.underlying4 h2
  simp at e6
  exact ⟨⟨v, u, b⟩, e0, e1, e2, e3, e4, e5, e6⟩
theorem open_ivs_cells {cs : List Value} {n : Nat} {x : DataW H × List MemPlace} (h : DataW.trod enc Try.prog w base (fun _ => true) held n 23 cs = some x)
    (hsz : ∀ es sp, x.1 = .slice es sp → (es.length + sp.length) * 72 ≤ reachBytes) : ∃ v r, cs = [v] ∧ IvAt w v r := by
  rcases open_slice Try.underlying23 h with ⟨rfl, _⟩ | ⟨a, len, cap, m, n', D, Pl, rfl, hb, hl, hm, hmm, rfl, hel⟩
  · exact ⟨_, [], rfl, none, 0, rfl, by simp, .inl rfl⟩
  · simp only [if_true] at hmm
    subst hmm
    have hz := hsz _ _ rfl
    simp only [List.length_map, List.length_range, reachBytes] at hz
    have hall : ∀ i, i < len → ∃ c0 c1 c2 c3 c4 c5 c6 : Value, ∃ y : I, (c0 = .int .i64 y.f.k ∧ c1 = .int .i64 y.f.n ∧ c2 = .string y.f.t ∧ c3 = .int .i64 y.t.k ∧ c4 = .int .i64 y.t.n ∧ c5 = .string y.t.t ∧ c6 = .bool y.o) ∧
        w.cell? (a.add (i * 7 + 0)) = some c0 ∧ w.cell? (a.add (i * 7 + 1)) = some c1 ∧ w.cell? (a.add (i * 7 + 2)) = some c2 ∧ w.cell? (a.add (i * 7 + 3)) = some c3 ∧ w.cell? (a.add (i * 7 + 4)) = some c4 ∧ w.cell? (a.add (i * 7 + 5)) = some c5 ∧ w.cell? (a.add (i * 7 + 6)) = some c6 := by
      intro i hi
      obtain ⟨cs', h1, h2⟩ := hel i (by omega)
      rw [cells57] at h1
      obtain ⟨_, hlen, hc⟩ := World.cells?_some h1
      match cs', hlen with
      | [c0, c1, c2, c3, c4, c5, c6], _ =>
        obtain ⟨y, hy⟩ := open_cells7 h2
        have k0 := hc 0 (by omega)
        have k1 := hc 1 (by omega)
        have k2 := hc 2 (by omega)
        have k3 := hc 3 (by omega)
        have k4 := hc 4 (by omega)
        have k5 := hc 5 (by omega)
        have k6 := hc 6 (by omega)
        rw [add_add] at k0 k1 k2 k3 k4 k5 k6
        exact ⟨c0, c1, c2, c3, c4, c5, c6, y, hy, by simpa using k0, by simpa using k1, by simpa using k2, by simpa using k3, by simpa using k4, by simpa using k5, by simpa using k6⟩
    have hsp : 0 < len → a.block < w.heap.size ∧ a.spot = none := by
      intro h0
      obtain ⟨c0, c1, c2, c3, c4, c5, c6, y, -, k0, -⟩ := hall 0 h0
      have : a.add (0 * 7 + 0) = a := by simp [Addr.add]
      rw [this] at k0
      exact cell_lt k0
    have hex : ∀ i, i < len → ∃ y : I, IAt w a.block (a.off + i * 7) y := by
      intro i hi
      obtain ⟨c0, c1, c2, c3, c4, c5, c6, y, ⟨rfl, rfl, rfl, rfl, rfl, rfl, rfl⟩, k0, k1, k2, k3, k4, k5, k6⟩ := hall i hi
      have hs := (hsp (by omega)).2
      exact ⟨y, ⟨add_plain' k0 hs, by rw [Nat.add_assoc]; exact add_plain' k1 hs, by rw [Nat.add_assoc]; exact add_plain' k2 hs⟩, by rw [Nat.add_assoc]; exact add_plain' k3 hs, by rw [Nat.add_assoc]; exact add_plain' k4 hs, by rw [Nat.add_assoc]; exact add_plain' k5 hs, by rw [Nat.add_assoc]; exact add_plain' k6 hs⟩
    have hin : Inhabited I := ⟨⟨⟨0, 0, ByteArray.empty⟩, ⟨0, 0, ByteArray.empty⟩, false⟩⟩
    obtain ⟨F, hF⟩ := choose_lt hex
    refine ⟨_, (List.range len).map F, rfl, some a, _, by rw [List.length_map, List.length_range], by simp; omega, ?_⟩
    by_cases h0 : len = 0
    · left; simp [h0]
    · right
      obtain ⟨hlt, hs⟩ := hsp (by omega)
      obtain ⟨b, off, spot⟩ := a
      simp only at hs hlt
      subst hs
      exact ⟨b, off, rfl, hlt, fun i hi => by simpa using hF i (by simpa using hi)⟩

set_option maxRecDepth 100000 in
/-- A list of intervals that came in. -/
theorem open_Ivs {r : Reach} {b0 : Nat} {v : Value} {d : DataW H} {p : List MemPlace} (hv : Value.okWide Try.prog w r b0 23 v) (h : DataW.Trod enc Try.prog w base (fun _ => true) held 23 v d p)
    (hsz : ∀ es sp, d = .slice es sp → (es.length + sp.length) * 72 ≤ reachBytes) : ∃ r, IvAt w v r := by
  obtain ⟨a0, len0, cap0, rfl⟩ := okWide_slice Try.underlying23 hv
  obtain ⟨fuel, hf⟩ := h
  obtain ⟨v, r, hcs, hr⟩ := open_ivs_cells hf hsz
  simp [Value.cells] at hcs
  subst hcs
  exact ⟨r, hr⟩
theorem open_ivs_cut {cs : List Value} {n : Nat} {x : DataW H × List MemPlace} (h : DataW.trod enc Try.prog w base (fun _ => true) held n 23 cs = some x) :
    ∃ a len cap r, cs = [.slice a len cap] ∧ len ≤ cap ∧ cap ≤ maxLen ∧ r.length = min len 80 ∧ IvAt w (.slice a r.length cap) r := by
  rcases open_slice Try.underlying23 h with ⟨rfl, _⟩ | ⟨a, len, cap, m, n', D, Pl, rfl, hb, hl, hm, hmm, rfl, hel⟩
  · exact ⟨_, _, _, [], rfl, by omega, by simp, by simp, none, 0, rfl, by simp, .inl rfl⟩
  · simp only [if_true] at hmm
    subst hmm
    have hall : ∀ i, i < len → ∃ c0 c1 c2 c3 c4 c5 c6 : Value, ∃ y : I, (c0 = .int .i64 y.f.k ∧ c1 = .int .i64 y.f.n ∧ c2 = .string y.f.t ∧ c3 = .int .i64 y.t.k ∧ c4 = .int .i64 y.t.n ∧ c5 = .string y.t.t ∧ c6 = .bool y.o) ∧
        w.cell? (a.add (i * 7 + 0)) = some c0 ∧ w.cell? (a.add (i * 7 + 1)) = some c1 ∧ w.cell? (a.add (i * 7 + 2)) = some c2 ∧ w.cell? (a.add (i * 7 + 3)) = some c3 ∧ w.cell? (a.add (i * 7 + 4)) = some c4 ∧ w.cell? (a.add (i * 7 + 5)) = some c5 ∧ w.cell? (a.add (i * 7 + 6)) = some c6 := by
      intro i hi
      obtain ⟨cs', h1, h2⟩ := hel i (by omega)
      rw [cells57] at h1
      obtain ⟨_, hlen, hc⟩ := World.cells?_some h1
      match cs', hlen with
      | [c0, c1, c2, c3, c4, c5, c6], _ =>
        obtain ⟨y, hy⟩ := open_cells7 h2
        have k0 := hc 0 (by omega)
        have k1 := hc 1 (by omega)
        have k2 := hc 2 (by omega)
        have k3 := hc 3 (by omega)
        have k4 := hc 4 (by omega)
        have k5 := hc 5 (by omega)
        have k6 := hc 6 (by omega)
        rw [add_add] at k0 k1 k2 k3 k4 k5 k6
        exact ⟨c0, c1, c2, c3, c4, c5, c6, y, hy, by simpa using k0, by simpa using k1, by simpa using k2, by simpa using k3, by simpa using k4, by simpa using k5, by simpa using k6⟩
    have hsp : 0 < len → a.block < w.heap.size ∧ a.spot = none := by
      intro h0
      obtain ⟨c0, c1, c2, c3, c4, c5, c6, y, -, k0, -⟩ := hall 0 h0
      have : a.add (0 * 7 + 0) = a := by simp [Addr.add]
      rw [this] at k0
      exact cell_lt k0
    have hex : ∀ i, i < min len 80 → ∃ y : I, IAt w a.block (a.off + i * 7) y := by
      intro i hi
      obtain ⟨c0, c1, c2, c3, c4, c5, c6, y, ⟨rfl, rfl, rfl, rfl, rfl, rfl, rfl⟩, k0, k1, k2, k3, k4, k5, k6⟩ := hall i (by omega)
      have hs := (hsp (by omega)).2
      exact ⟨y, ⟨add_plain' k0 hs, by rw [Nat.add_assoc]; exact add_plain' k1 hs, by rw [Nat.add_assoc]; exact add_plain' k2 hs⟩, by rw [Nat.add_assoc]; exact add_plain' k3 hs, by rw [Nat.add_assoc]; exact add_plain' k4 hs, by rw [Nat.add_assoc]; exact add_plain' k5 hs, by rw [Nat.add_assoc]; exact add_plain' k6 hs⟩
    have hin : Inhabited I := ⟨⟨⟨0, 0, ByteArray.empty⟩, ⟨0, 0, ByteArray.empty⟩, false⟩⟩
    obtain ⟨F, hF⟩ := choose_lt hex
    refine ⟨some a, len, m, (List.range (min len 80)).map F, rfl, hl, hm, by simp, some a, m, rfl, by simp; omega, ?_⟩
    by_cases h0 : len = 0
    · left; simp [h0]
    · right
      obtain ⟨hlt, hs⟩ := hsp (by omega)
      obtain ⟨b, off, spot⟩ := a
      simp only at hs hlt
      subst hs
      exact ⟨b, off, rfl, hlt, fun i hi => by simpa using hF i (by simpa using hi)⟩
set_option maxRecDepth 100000 in
/-- A list of intervals that came in, of which a law takes the first 80. -/
theorem open_Ivs80 {r : Reach} {b0 : Nat} {v : Value} {d : DataW H} {p : List MemPlace} (hv : Value.okWide Try.prog w r b0 23 v) (h : DataW.Trod enc Try.prog w base (fun _ => true) held 23 v d p) :
    ∃ a len cap r, v = .slice a len cap ∧ len ≤ cap ∧ cap ≤ maxLen ∧ r.length = min len 80 ∧ IvAt w (.slice a r.length cap) r := by
  obtain ⟨a0, len0, cap0, rfl⟩ := okWide_slice Try.underlying23 hv
  obtain ⟨fuel, hf⟩ := h
  obtain ⟨a, len, cap, r, hcs, h1, h2, h3, h4⟩ := open_ivs_cut hf
  simp [Value.cells] at hcs
  obtain ⟨rfl, rfl, rfl⟩ := hcs
  exact ⟨_, _, _, r, rfl, h1, h2, h3, h4⟩
end
/-- A list that lies elsewhere than the case. -/
def IvX (cb : Nat) (w : World) (v : Value) (l : List I) : Prop :=
  ∃ (a : Option Addr) (cap : Nat), v = .slice a l.length cap ∧ l.length ≤ 4398046511104 ∧ (l = [] ∨ ∃ b off, a = some ⟨b, off, none⟩ ∧ b ≠ cb ∧ IvIn w b off l)
theorem IvX.at_ {cb : Nat} {w : World} {v : Value} {l : List I} (h : IvX cb w v l) : IvAt w v l :=
  let ⟨a, cap, h1, h2, h3⟩ := h; ⟨a, cap, h1, h2, h3.imp id fun ⟨b, off, k1, _, k3⟩ => ⟨b, off, k1, k3⟩⟩
theorem IvX.later {cb : Nat} {w w' : World} {v : Value} {l : List I} (h : IvX cb w v l) (hw : Below w.heap.size w w') : IvX cb w' v l :=
  let ⟨a, cap, h1, h2, h3⟩ := h; ⟨a, cap, h1, h2, h3.imp id fun ⟨b, off, k1, k2, k3⟩ => ⟨b, off, k1, k2, k3.later hw⟩⟩
theorem IvX.off {cb : Nat} {w w' : World} {v : Value} {l : List I} (h : IvX cb w v l) (hw : w.grownBy w' (some cb)) : IvX cb w' v l :=
  let ⟨a, cap, h1, h2, h3⟩ := h; ⟨a, cap, h1, h2, h3.imp id fun ⟨b, off, k1, k2, k3⟩ => ⟨b, off, k1, k2, Nat.lt_of_lt_of_le k3.blk hw.size, fun i hi =>
    let hx := k3.at_ i hi
    ⟨⟨hw.cell hx.f.k (by simp; exact k2), hw.cell hx.f.n (by simp; exact k2), hw.cell hx.f.t (by simp; exact k2)⟩, hw.cell hx.t0 (by simp; exact k2), hw.cell hx.t1 (by simp; exact k2), hw.cell hx.t2 (by simp; exact k2), hw.cell hx.o (by simp; exact k2)⟩⟩⟩
theorem IvX.of_old {cb : Nat} {w : World} {v : Value} {l : List I} (h : IvAt w v l) (hw : w.heap.size ≤ cb) : IvX cb w v l :=
  let ⟨a, cap, h1, h2, h3⟩ := h; ⟨a, cap, h1, h2, h3.imp id fun ⟨b, off, k1, k3⟩ => ⟨b, off, k1, by have := k3.blk; omega, k3⟩⟩
theorem IvX.of_own {cb : Nat} {w : World} {v : Value} {l : List I} (h : OwnI (cb + 1) w v l) (hl : l.length ≤ 4398046511104) : IvX cb w v l := by
  obtain ⟨a, cap, h1, h2, h3⟩ := OwnI.at_ h hl
  refine ⟨a, cap, h1, h2, h3.imp id fun ⟨b, off, k1, k3⟩ => ⟨b, off, k1, ?_, k3⟩⟩
  subst h1 k1
  have h4 := h.2
  rcases h4 with ⟨h5, _⟩ | ⟨g, c, cur, h5, h6, _⟩
  · simp at h5
  · simp only [Value.slice.injEq, Option.some.injEq, Addr.mk.injEq] at h5
    obtain ⟨⟨rfl, -, -⟩, -⟩ := h5
    omega
end Go.Proofs.Ytmjokpakekfkfaa

/- The least value of a list of intervals: interval.Least and the reference's. -/
set_option linter.unusedSimpArgs false
set_option linter.unusedVariables false
namespace Go.Proofs.Ytmjokpakekfkfaa
open Go.RowKit

noncomputable def leastB : List I → Bool
  | [] => false
  | x :: l => canonB (x :: l)
noncomputable def leastV : List I → V
  | [] => zV
  | x :: l => if canonB (x :: l) = true then x.f else zV
set_option maxHeartbeats 1000000 in
theorem ileast_calls (v : Value) (l : List I) (w : World) (h : IvAt w v l) : Calls Try.prog 11 #[v] w fun e w' => e = .returned (.tuple #[(leastV l).val, .bool (leastB l)]) ∧ Gro w w' := by
  have hb : Below w.heap.size w (w.alloc (.cells #[.int .i64 0, .int .i64 0, .string ⟨#[]⟩] 25)) := (Below.refl _ _).alloc (Nat.le_refl _) _
  have HV := Lib.hid (ivalid_calls v l _ (h.later hb))
  obtain ⟨p, c, rfl, hl, h2⟩ := h
  cases l with
  | nil =>
    clear h2 hb
    go_enter Try.func11, Try.ntmps11
    go_wp2
    exact bodyPost_ret (v := .tuple #[zV.val, .bool false]) (by simp [results, Try.results11, go_sem, zV, V.val]; try rfl) rfl ⟨rfl, (Gro.refl _).alloc _⟩
  | cons x l =>
    obtain ⟨b, off, rfl, hr⟩ := h2.resolve_left (by simp)
    obtain ⟨⟨e0, e1, e2⟩, -⟩ := hr.at_ 0 (by simp)
    have hbl := hr.blk
    simp only [Nat.zero_mul, Nat.add_zero, List.getElem_cons_zero] at e0 e1 e2
    simp only [List.length_cons] at HV hl ⊢
    obtain ⟨⟨xk, xn, xt⟩, xt', xo⟩ := x
    simp only at e0 e1 e2
    cases hc : canonB (⟨⟨xk, xn, xt⟩, xt', xo⟩ :: l) with
    | false =>
      have H : Hid (leastV (⟨⟨xk, xn, xt⟩, xt', xo⟩ :: l) = zV ∧ leastB (⟨⟨xk, xn, xt⟩, xt', xo⟩ :: l) = false) := by show _ ∧ _; simp [leastV, leastB, hc]
      rw [H.out.1, H.out.2]
      rw [hc] at HV
      generalize l.length = n at HV hl ⊢
      have hq : ((n : Int) + 1 == 0) = false := by simp; omega
      clear hc H hr h2 hb
      go_enter Try.func11, Try.ntmps11
      go_wp2_with (go_at_call 9; refine (wide HV.out).mono ?_; rintro e w' ⟨q, os, rfl, rfl⟩)
      exact bodyPost_ret (v := .tuple #[zV.val, .bool false]) (by simp [results, Try.results11, go_sem, zV, V.val]; try rfl) rfl ⟨rfl, by first | exact (Gro.refl _).alloc _ | exact ((Gro.refl _).alloc _).grown _ _⟩
    | true =>
      have H : Hid (leastV (⟨⟨xk, xn, xt⟩, xt', xo⟩ :: l) = ⟨xk, xn, xt⟩ ∧ leastB (⟨⟨xk, xn, xt⟩, xt', xo⟩ :: l) = true) := by show _ ∧ _; simp [leastV, leastB, hc]
      rw [H.out.1, H.out.2]
      rw [hc] at HV
      generalize l.length = n at HV hl ⊢
      have hq : ((n : Int) + 1 == 0) = false := by simp; omega
      have hq0 : (0 : Int) < (n : Int) + 1 := by omega
      clear hc H hr h2 hb
      go_enter Try.func11, Try.ntmps11
      go_wp2_with (go_at_call 9; refine (wide HV.out).mono ?_; rintro e w' ⟨q, os, rfl, rfl⟩)
      exact bodyPost_ret (v := .tuple #[V.val ⟨xk, xn, xt⟩, .bool true]) (by simp [results, Try.results11, go_sem, zV, V.val]; try rfl) rfl ⟨rfl, by first | exact (Gro.refl _).alloc _ | exact ((Gro.refl _).alloc _).grown _ _⟩
set_option maxHeartbeats 1000000 in
theorem refIleast_calls (v : Value) (l : List I) (w : World) (h : IvAt w v l) : Calls Try.prog 12 #[v] w fun e w' => e = .returned (.tuple #[(leastV l).val, .bool (leastB l)]) ∧ Gro w w' := by
  have hb : Below w.heap.size w (w.alloc (.cells #[.int .i64 0, .int .i64 0, .string ⟨#[]⟩] 25)) := (Below.refl _ _).alloc (Nat.le_refl _) _
  have HV := Lib.hid (refIvalid_calls v l _ (h.later hb))
  obtain ⟨p, c, rfl, hl, h2⟩ := h
  cases l with
  | nil =>
    clear h2 hb
    go_enter Try.func12, Try.ntmps12
    go_wp2
    exact bodyPost_ret (v := .tuple #[zV.val, .bool false]) (by simp [results, Try.results12, go_sem, zV, V.val]; try rfl) rfl ⟨rfl, (Gro.refl _).alloc _⟩
  | cons x l =>
    obtain ⟨b, off, rfl, hr⟩ := h2.resolve_left (by simp)
    obtain ⟨⟨e0, e1, e2⟩, -⟩ := hr.at_ 0 (by simp)
    have hbl := hr.blk
    simp only [Nat.zero_mul, Nat.add_zero, List.getElem_cons_zero] at e0 e1 e2
    simp only [List.length_cons] at HV hl ⊢
    obtain ⟨⟨xk, xn, xt⟩, xt', xo⟩ := x
    simp only at e0 e1 e2
    cases hc : canonB (⟨⟨xk, xn, xt⟩, xt', xo⟩ :: l) with
    | false =>
      have H : Hid (leastV (⟨⟨xk, xn, xt⟩, xt', xo⟩ :: l) = zV ∧ leastB (⟨⟨xk, xn, xt⟩, xt', xo⟩ :: l) = false) := by show _ ∧ _; simp [leastV, leastB, hc]
      rw [H.out.1, H.out.2]
      rw [hc] at HV
      generalize l.length = n at HV hl ⊢
      have hq : ((n : Int) + 1 == 0) = false := by simp; omega
      clear hc H hr h2 hb
      go_enter Try.func12, Try.ntmps12
      go_wp2_with (go_at_call 10; refine (wide HV.out).mono ?_; rintro e w' ⟨q, os, rfl, rfl⟩)
      exact bodyPost_ret (v := .tuple #[zV.val, .bool false]) (by simp [results, Try.results12, go_sem, zV, V.val]; try rfl) rfl ⟨rfl, by first | exact (Gro.refl _).alloc _ | exact ((Gro.refl _).alloc _).grown _ _⟩
    | true =>
      have H : Hid (leastV (⟨⟨xk, xn, xt⟩, xt', xo⟩ :: l) = ⟨xk, xn, xt⟩ ∧ leastB (⟨⟨xk, xn, xt⟩, xt', xo⟩ :: l) = true) := by show _ ∧ _; simp [leastV, leastB, hc]
      rw [H.out.1, H.out.2]
      rw [hc] at HV
      generalize l.length = n at HV hl ⊢
      have hq : ((n : Int) + 1 == 0) = false := by simp; omega
      have hq0 : (0 : Int) < (n : Int) + 1 := by omega
      clear hc H hr h2 hb
      go_enter Try.func12, Try.ntmps12
      go_wp2_with (go_at_call 10; refine (wide HV.out).mono ?_; rintro e w' ⟨q, os, rfl, rfl⟩)
      exact bodyPost_ret (v := .tuple #[V.val ⟨xk, xn, xt⟩, .bool true]) (by simp [results, Try.results12, go_sem, zV, V.val]; try rfl) rfl ⟨rfl, by first | exact (Gro.refl _).alloc _ | exact ((Gro.refl _).alloc _).grown _ _⟩
end Go.Proofs.Ytmjokpakekfkfaa

/- The contract of partsynclaw03.begun. -/
set_option linter.unusedSimpArgs false
set_option linter.unusedVariables false
namespace Go.Proofs.Ytmjokpakekfkfaa
open Go.RowKit

def nV (n : Int) : V := ⟨4, n, ByteArray.empty⟩
theorem num_valid (n : Int) : validB (nV n) = true := by simp [validB, validP, nV]
theorem num_cmp (a b : Int) : cmpV (nV a) (nV b) = cmpI a b := by
  have := goodS.self ByteArray.empty
  unfold cmpI
  simp only [cmpV, nV, cmpI, this]
  rw [if_pos (by simp)]
  by_cases h1 : a < b
  · simp [h1]
  · by_cases h2 : b < a
    · simp [h1, h2]
    · simp [h1, h2]
theorem between_num {a b : Int} (h : a < b) : betweenL (nV a) (nV b) = [⟨nV a, nV b, false⟩] ∧ betweenE (nV a) (nV b) = 0 := by
  have h1 : cmpV (nV a) (nV b) < 0 := by rw [num_cmp]; simp [cmpI, h]
  exact ⟨by unfold betweenL; rw [if_pos ⟨num_valid _, num_valid _, h1⟩], by unfold betweenE; rw [if_pos ⟨num_valid _, num_valid _⟩]⟩
/-- A list of one interval of two numbers is canonical. -/
theorem num_part {a b : Int} (h : a < b) : partB ⟨nV a, nV b, false⟩ = true := by
  have h1 : cmpV (nV a) (nV b) < 0 := by rw [num_cmp]; simp [cmpI, h]
  unfold partB; rw [if_neg (by simp)]; simp [num_valid, h1]
/-- Two intervals that touch. -/
theorem join_num {a b c : Int} (h1 : a < b) (h2 : b < c) (u : V) : inB [⟨nV a, nV c, false⟩] u = opOr (inB [⟨nV a, nV b, false⟩] u) (inB [⟨nV b, nV c, false⟩] u) := by
  have e1 : cmpV (nV a) (nV b) < 0 := by rw [num_cmp]; simp [cmpI, h1]
  have e2 : cmpV (nV b) (nV c) < 0 := by rw [num_cmp]; simp [cmpI, h2]
  have n1 := goodV.neg u (nV b)
  have t1 : cmpV u (nV b) < 0 → cmpV u (nV c) < 0 := fun h => goodV.lt_le h (by omega)
  have t2 : cmpV (nV b) u ≤ 0 → cmpV (nV a) u ≤ 0 := fun h => by have := goodV.lt_le e1 h; omega
  have : (inB [⟨nV a, nV c, false⟩] u = true) ↔ (opOr (inB [⟨nV a, nV b, false⟩] u) (inB [⟨nV b, nV c, false⟩] u) = true) := by
    simp only [inB, opOr, List.any_cons, List.any_nil, Bool.or_false, Bool.or_eq_true, inI_iff]
    simp only [Bool.false_eq_true, false_or]
    constructor
    · rintro ⟨x1, x2⟩
      by_cases hb : cmpV u (nV b) < 0
      · exact .inl ⟨x1, hb⟩
      · exact .inr ⟨by omega, x2⟩
    · rintro (⟨x1, x2⟩ | ⟨x1, x2⟩)
      · exact ⟨x1, t1 x2⟩
      · exact ⟨t2 x1, x2⟩
  cases hx : inB [⟨nV a, nV c, false⟩] u <;> cases hy : opOr (inB [⟨nV a, nV b, false⟩] u) (inB [⟨nV b, nV c, false⟩] u) <;> simp_all
theorem comb_num {a b c : Int} (h1 : a < b) (h2 : b < c) : doL opOr [⟨nV a, nV b, false⟩] [⟨nV b, nV c, false⟩] = [⟨nV a, nV c, false⟩] ∧ doE opOr [⟨nV a, nV b, false⟩] [⟨nV b, nV c, false⟩] = 0 := by
  have e : combL opOr [⟨nV a, nV b, false⟩] [⟨nV b, nV c, false⟩] = [⟨nV a, nV c, false⟩] := (combL_is (.one (num_part (by omega))) (join_num h1 h2)).symm
  have c1 : canonB [⟨nV a, nV b, false⟩] = true := canon_of (.one (num_part h1)) (by simp)
  have c2 : canonB [⟨nV b, nV c, false⟩] = true := canon_of (.one (num_part h2)) (by simp)
  constructor
  · unfold doL; rw [if_pos ⟨c1, c2, by rw [e]; simp⟩, e]
  · unfold doE; rw [if_pos ⟨c1, c2⟩, if_pos (by rw [e]; simp)]
theorem has_num {a b c : Int} (h1 : a ≤ b) (h2 : b < c) : hasB [⟨nV a, nV c, false⟩] (nV b) = true := by
  have c1 : canonB [⟨nV a, nV c, false⟩] = true := canon_of (.one (num_part (by omega))) (by simp)
  have e1 : cmpV (nV a) (nV b) ≤ 0 := by rw [num_cmp]; unfold cmpI; split <;> (try split) <;> omega
  have e2 : cmpV (nV b) (nV c) < 0 := by rw [num_cmp]; simp [cmpI, h2]
  simp [hasB, num_valid, c1, inB, inI, e1, e2]
theorem owned_one {w : World} {a : Option Addr} {cap : Nat} {x : I} (h : IvAt w (.slice a 1 cap) [x]) : ∃ b off, a = some ⟨b, off, none⟩ ∧ b < w.heap.size ∧ IAt w b off x := by
  obtain ⟨a', cap', e1, _, h3⟩ := h
  rcases h3 with h3 | ⟨b, off, rfl, h3⟩
  · simp at h3
  · injection e1 with e2 e3 e4
    subst e2
    have := h3.at_ 0 (by simp)
    exact ⟨b, off, rfl, h3.blk, by simpa using this⟩
set_option maxHeartbeats 1000000 in
set_option maxRecDepth 100000 in
theorem ibegun_calls (w : World) : Calls Try.prog 16 #[] w fun e w' => e = .returned (.bool true) ∧ Below w.heap.size w w' := by
  have hb1 := fun w' => between_calls (nV 1) (nV 3) w'
  have hb2 := fun w' => between_calls (nV 3) (nV 5) w'
  rw [(between_num (by omega : (1 : Int) < 3)).1, (between_num (by omega : (1 : Int) < 3)).2] at hb1
  rw [(between_num (by omega : (3 : Int) < 5)).1, (between_num (by omega : (3 : Int) < 5)).2] at hb2
  have hu := fun va vb w' h1 h2 => Union_calls va vb [⟨nV 1, nV 3, false⟩] [⟨nV 3, nV 5, false⟩] w' h1 h2
  rw [(comb_num (by omega : (1 : Int) < 3) (by omega : (3 : Int) < 5)).1, (comb_num (by omega : (1 : Int) < 3) (by omega : (3 : Int) < 5)).2] at hu
  have HB1 := Lib.hid hb1
  have HB2 := Lib.hid hb2
  have HU := Lib.hid hu
  have HN := Lib.hid (fun n w' => wide (num_calls n w'))
  have hca : canonB [⟨nV 1, nV 5, false⟩] = true := canon_of (.one (num_part (by omega))) (by simp)
  have hha : hasB [⟨nV 1, nV 5, false⟩] (nV 3) = true := has_num (by omega) (by omega)
  have hV := fun v w' h => wide (ivalid_calls v [⟨nV 1, nV 5, false⟩] w' h)
  rw [hca] at hV
  have HV := Lib.hid hV
  have hH := fun v w' h => wide (ihas_calls v [⟨nV 1, nV 5, false⟩] (nV 3) w' h)
  rw [hha] at hH
  have HH := Lib.hid hH
  clear hb1 hb2 hu hca hha hV hH
  go_enter Try.func16, Try.ntmps16
  go_wp2_with fail
  refine (HN.out _ _).mono ?_
  rintro e w' ⟨q1, os1, rfl, rfl⟩
  go_wp2_with fail
  refine (HN.out _ _).mono ?_
  rintro e w' ⟨q2, os2, rfl, rfl⟩
  go_wp2_with fail
  refine (HB1.out _).mono ?_
  rintro e w1 ⟨u1, rfl, hi1, hg1⟩
  have HG1 : Hid (Gro w w1) := ((Gro.refl w).grown _ _).trans hg1
  have HI1 := Lib.hid hi1
  obtain ⟨p1, k1, rfl⟩ := iv_slice hi1
  clear hi1 hg1
  go_wp2_with fail
  refine (HN.out _ _).mono ?_
  rintro e w' ⟨q3, os3, rfl, rfl⟩
  go_wp2_with fail
  refine (HN.out _ _).mono ?_
  rintro e w' ⟨q4, os4, rfl, rfl⟩
  go_wp2_with fail
  refine (HB2.out _).mono ?_
  rintro e w2 ⟨u2, rfl, hi2, hg2⟩
  have HG12 : Hid (Gro w1 w2) := ((Gro.refl w1).grown _ _).trans hg2
  have HI2 := Lib.hid hi2
  obtain ⟨p2, k2, rfl⟩ := iv_slice hi2
  clear hi2 hg2
  go_wp2_with fail
  refine (HU.out _ _ w2 (HI1.out.later HG12.out.below) HI2.out).mono ?_
  rintro e W ⟨p3, k3, rfl, hi3, hb3⟩
  have HBW : Hid (Below w.heap.size w W) := (HG1.out.trans HG12.out).below.trans (hb3.mono (HG1.out.trans HG12.out).size)
  have HI3 := Lib.hid hi3
  obtain ⟨b, off, rfl, hbl, hat⟩ := owned_one hi3
  obtain ⟨⟨c0, c1, c2⟩, c3, c4, c5, c6⟩ := hat
  simp only [nV] at c0 c1 c2 c3 c4 c5 c6
  have HIG : ∀ n os, Hid (IvAt (Sort.grow (W.drewN n) os) (.slice (some ⟨b, off, none⟩) 1 k3) [⟨nV 1, nV 5, false⟩]) := fun n os => HI3.out.later ((Gro.refl W).grown n os).below
  have HID : ∀ n os, Hid (IvAt (Sort.grow (W.drewN n) os) (.slice (some ⟨b, off, none⟩) 1 k3) [⟨nV 1, nV 5, false⟩]) := HIG
  have KK : Hid (∀ n os, (Sort.grow (W.drewN n) os).cell? ⟨b, off, none⟩ = some (.int .i64 4) ∧ (Sort.grow (W.drewN n) os).cell? ⟨b, off + 1, none⟩ = some (.int .i64 1) ∧ (Sort.grow (W.drewN n) os).cell? ⟨b, off + 2, none⟩ = some (.string ByteArray.empty) ∧ (Sort.grow (W.drewN n) os).cell? ⟨b, off + 3, none⟩ = some (.int .i64 4) ∧ (Sort.grow (W.drewN n) os).cell? ⟨b, off + 4, none⟩ = some (.int .i64 5) ∧ (Sort.grow (W.drewN n) os).cell? ⟨b, off + 5, none⟩ = some (.string ByteArray.empty)) := fun n os => ⟨cell_grown hbl c0 n os, cell_grown hbl c1 n os, cell_grown hbl c2 n os, cell_grown hbl c3 n os, cell_grown hbl c4 n os, cell_grown hbl c5 n os⟩
  clear hi3 hb3 HI1 HI2 HB1 HB2 HU
  go_wp2_with fail
  go_region_held3 (fun w' => w'.cell? ⟨b, off, none⟩ = some (.int .i64 4) ∧ w'.cell? ⟨b, off + 1, none⟩ = some (.int .i64 1) ∧ w'.cell? ⟨b, off + 2, none⟩ = some (.string ByteArray.empty) ∧ w'.cell? ⟨b, off + 3, none⟩ = some (.int .i64 4) ∧ w'.cell? ⟨b, off + 4, none⟩ = some (.int .i64 5) ∧ w'.cell? ⟨b, off + 5, none⟩ = some (.string ByteArray.empty)) (first | exact KK.out _ _ | go_keep)
    (first
      | (go_at_call 47; refine (HN.out _ _).mono ?_; rintro e w' ⟨q, os, rfl, rfl⟩)
      | (go_at_call 9; refine (HV.out _ _ (HIG _ _).out).mono ?_; rintro e w' ⟨q, os, rfl, rfl⟩)
      | (go_at_call 14; refine (HH.out _ _ (HIG _ _).out).mono ?_; rintro e w' ⟨q, os, rfl, rfl⟩)
      | (go_at_call 48; refine (all_calls _).mono ?_; rintro e w' ⟨bb, rfl, hiv, hgg⟩; obtain ⟨q, os, rfl⟩ := hgg.grow; clear hiv hgg))
  go_wp2
  go_ret
  exact ⟨rfl, HBW.out.trans (((Gro.refl W).grown _ _).below.mono HBW.out.size)⟩
end Go.Proofs.Ytmjokpakekfkfaa

/- How the arguments of the laws about interval are opened; boxes and rows that a case leaves alone. -/
set_option linter.unusedSimpArgs false
set_option linter.unusedVariables false
namespace Go.Proofs.Ytmjokpakekfkfaa
open Go.ChangeShapes Go.WideShapes Go.ChangeAt Go.RowKit Go.Joins

section
variable {H : Type} {enc : TypeId × Value → H} {w : World} {base : Nat} {spare : Nat → Bool} {held : Bool}
set_option maxRecDepth 100000 in
theorem open_Vn {r : Reach} {b0 : Nat} {v : Value} {d : DataW H} {p : List MemPlace} (hv : Value.okWide Try.prog w r b0 25 v) (h : DataW.Trod enc Try.prog w base spare held 25 v d p) :
    ∃ x : V, v = x.val ∧ isNum x.n := by
  obtain ⟨c0, c1, c2, y0, y1, y2, m, rfl, rfl, rfl, hy0, hy1, hy2⟩ := open_agg3 Try.underlying25 (by kernel_rfl) cells24 hv h
  obtain ⟨a, e0, rfl, wa⟩ := DataW.trod_int Try.underlying3 hy0
  obtain ⟨b, e1, rfl, wb⟩ := DataW.trod_int Try.underlying2 hy1
  obtain ⟨s, e2, rfl, hsz⟩ := DataW.trod_string Try.underlying9 hy2
  simp at e0 e1 e2
  subst e0 e1 e2
  refine ⟨⟨a, b, s⟩, rfl, ?_⟩
  have := wb
  simpa [isNum, Lit.wf, IntKind.min, IntKind.max, IntKind.bits, IntKind.signed] using this
set_option maxRecDepth 100000 in
theorem open_int' {r : Reach} {b0 : Nat} {v : Value} {d : DataW H} {p : List MemPlace} (hv : Value.okWide Try.prog w r b0 3 v) (h : DataW.Trod enc Try.prog w base spare held 3 v d p) :
    ∃ n : Int, v = .int .i64 n ∧ isNum n := by
  obtain ⟨n, rfl, -, -, hw⟩ := open_int Try.underlying3 hv h
  exact ⟨n, rfl, by simpa [isNum, Lit.wf, IntKind.min, IntKind.max, IntKind.bits, IntKind.signed] using hw⟩
set_option maxRecDepth 100000 in
theorem open_u8 {r : Reach} {b0 : Nat} {v : Value} {d : DataW H} {p : List MemPlace} (hv : Value.okWide Try.prog w r b0 5 v) (h : DataW.Trod enc Try.prog w base spare held 5 v d p) :
    ∃ n : Nat, v = .int .u8 n ∧ n < 256 := by
  obtain ⟨n, rfl, -, -, hw⟩ := open_int Try.underlying5 hv h
  have : 0 ≤ n ∧ n ≤ 255 := by simpa [Lit.wf, IntKind.min, IntKind.max, IntKind.bits, IntKind.signed] using hw
  exact ⟨n.toNat, by congr 1; omega, by omega⟩
end

theorem RowIn.kept {w w' : World} {b c off : Nat} {l : List V} (h : RowIn w b off l) (hw : w.grownBy w' (some c)) (hne : b ≠ c) : RowIn w' b off l :=
  ⟨Nat.lt_of_lt_of_le h.blk hw.size, fun i hi => let ⟨k, n, t⟩ := h.at_ i hi; ⟨hw.cell k (by simp; exact hne), hw.cell n (by simp; exact hne), hw.cell t (by simp; exact hne)⟩⟩
theorem drew_by (w : World) : w.grownBy w.drew none := ⟨rfl, rfl, rfl, Nat.le_refl _, fun _ _ _ => rfl⟩
theorem CaseAt.below {w w' : World} {b : Nat} {c : CaseId} (h : CaseAt w b c) (hw : Gro w w') : CaseAt w' b c := h.grown (gro_by hw none)
end Go.Proofs.Ytmjokpakekfkfaa
