/- The contracts of One, OfKind, All and of their references; and of the reference's Same. -/
import Derived.Test.YtmjokpakekfkfaaVg
set_option linter.unusedSimpArgs false
set_option linter.unusedVariables false
namespace Go.Proofs.Ytmjokpakekfkfaa
open Go.RowKit

theorem box_gro' {w w1 : World} {x y z : Value} {T : TypeId} (h : Gro (w.alloc (.cells #[x, y, z] T)) w1) : w.heap.size < w1.heap.size ∧ w1.cell? ⟨w.heap.size, 0, none⟩ = some x ∧ w1.cell? ⟨w.heap.size, 1, none⟩ = some y ∧ w1.cell? ⟨w.heap.size, 2, none⟩ = some z := by
  have hg := gro_by h none
  have hs := h.size
  simp at hs
  exact ⟨by omega, hg.cell (by go_simp) (by simp), hg.cell (by go_simp) (by simp), hg.cell (by go_simp) (by simp)⟩
theorem MakeOut.from_ {l : List I} {err : Int} {w w0 : World} {e : Ending} {w' : World} (h : MakeOut l err w e w') (hw : Gro w0 w) : MakeOut l err w0 e w' := by
  obtain ⟨v, h1, h2, h3⟩ := h
  exact ⟨v, h1, h2, hw.trans h3⟩
theorem MakeOut.slice {l : List I} {err : Int} {w : World} {e : Ending} {w' : World} (h : MakeOut l err w e w') : ∃ (a : Option Addr) (cap : Nat), e = .returned (.tuple #[.slice a l.length cap, .int .i64 err]) ∧ IvAt w' (.slice a l.length cap) l ∧ Gro w w' := by
  obtain ⟨v, h1, h2, h3⟩ := h
  obtain ⟨a, cap, rfl, -, -⟩ := id h2
  exact ⟨a, cap, h1, h2, h3⟩
theorem make_done {l : List I} {err : Int} {w w' : World} {u v : Value} (hu : u = .tuple #[v, .int .i64 err]) (h : IvAt w' v l) (hg : Gro w w') : MakeOut l err w (.returned u) w' := by subst hu; exact ⟨v, rfl, h, hg⟩

noncomputable def oneL (v : V) : List I := match nextV v with | some u => betweenL v u | none => fromL v
noncomputable def oneE (v : V) : Int := match nextV v with | some u => betweenE v u | none => fromE v
theorem oneL_some {v u : V} (h : nextV v = some u) : oneL v = betweenL v u ∧ oneE v = betweenE v u := by unfold oneL oneE; rw [h]; exact ⟨rfl, rfl⟩
theorem oneL_none {v : V} (h : nextV v = none) : oneL v = fromL v ∧ oneE v = fromE v := by unfold oneL oneE; rw [h]; exact ⟨rfl, rfl⟩
theorem nextV_bad {v : V} (h : validB v = false) : nextV v = none := nextV_invalid h
theorem nextV_good {v u : V} (h1 : v.n ≤ 9223372036854775807) (h0 : -9223372036854775808 ≤ v.n) (hv : validB v = true) (h : nextV v = some u) : validB u = true ∧ cmpV v u < 0 := by
  obtain ⟨a, b, -⟩ := next_spec (q := v) h1 hv h0 h1 h
  exact ⟨a, by omega⟩
theorem one_ref {v : V} (h1 : v.n ≤ 9223372036854775807) (h0 : -9223372036854775808 ≤ v.n) (hv : validB v = true) : oneL v = [⟨v, (nextV v).getD zeroV, !(nextV v).isSome⟩] ∧ oneE v = 0 := by
  cases hn : nextV v with
  | none =>
    obtain ⟨a, b⟩ := oneL_none hn
    rw [a, b]
    exact ⟨by simp [fromL, hv]; rfl, by simp [fromE, hv]⟩
  | some u =>
    obtain ⟨a, b⟩ := oneL_some hn
    obtain ⟨c, d⟩ := nextV_good h1 h0 hv hn
    rw [a, b]
    exact ⟨by simp [betweenL, hv, c, d], by simp [betweenE, hv, c]⟩
theorem one_ref_bad {v : V} (hv : validB v = false) : oneL v = [] ∧ oneE v = 10 := by
  obtain ⟨a, b⟩ := oneL_none (nextV_bad hv)
  rw [a, b]
  exact ⟨by simp [fromL, hv], by simp [fromE, hv]⟩

theorem refOne_calls (x : V) (h0 : -9223372036854775808 ≤ x.n) (h9 : x.n ≤ 9223372036854775807) (w : World) : Calls Try.prog 31 #[x.val] w (MakeOut (oneL x) (oneE x) w) := by
  have HV := Lib.hid (refValid_calls x (w.alloc (vObj x 25)))
  have HN := Lib.hid (fun w' => refNext_calls x h0 w')
  rcases hv : validB x with _ | _
  · obtain ⟨h1, h2⟩ := one_ref_bad hv
    rw [h1, h2]
    rw [hv] at HV
    obtain ⟨xk, xn, xt⟩ := x
    clear hv h1 h2 h0 h9 HN
    go_enter Try.func31, Try.ntmps31
    go_wp2_with fail
    refine HV.out.mono ?_
    rintro e w2 ⟨rfl, hg⟩
    have HG : Hid (Gro w w2) := ((Gro.refl _).alloc _).trans hg
    clear hg HV
    go_wp2
    go_ret2
    exact make_nil rfl HG.out
  · obtain ⟨h1, h2⟩ := one_ref h9 h0 hv
    rw [h1, h2]
    rw [hv] at HV
    obtain ⟨u, hu⟩ : ∃ u, (nextV x).getD zeroV = u := ⟨_, rfl⟩
    obtain ⟨q, hq⟩ : ∃ q, (nextV x).isSome = q := ⟨_, rfl⟩
    have HB : Hid (both (nextV x) = .tuple #[u.val, .bool q]) := by show both _ = _; unfold both; rw [hu, hq]
    rw [hu, hq]
    obtain ⟨xk, xn, xt⟩ := x
    obtain ⟨uk, un, ut⟩ := u
    clear hv h1 h2 h0 h9 hu hq
    go_enter Try.func31, Try.ntmps31
    go_wp2_with fail
    refine HV.out.mono ?_
    rintro e w2 ⟨rfl, hg⟩
    obtain ⟨s0, c0, c1, c2⟩ := box_gro' hg
    have HG : Hid (Gro w w2) := ((Gro.refl _).alloc _).trans hg
    clear hg HV
    go_wp2_with fail
    refine (HN.out w2).mono ?_
    rintro e w3 ⟨rfl, hg3⟩
    rw [HB.out]
    have b0 := (hg3.below.cell (p := ⟨w.heap.size, 0, none⟩) s0).trans c0
    have b1 := (hg3.below.cell (p := ⟨w.heap.size, 1, none⟩) s0).trans c1
    have b2 := (hg3.below.cell (p := ⟨w.heap.size, 2, none⟩) s0).trans c2
    have s3 := Nat.lt_of_lt_of_le s0 hg3.size
    have HG3 := Lib.hid (HG.out.trans hg3)
    clear hg3 c0 c1 c2 s0 HB HN
    go_wp2
    go_ret2
    exact make_end (x := ⟨⟨xk, xn, xt⟩, ⟨uk, un, ut⟩, !q⟩) rfl (by simp) (HG3.out.alloc _)

noncomputable def kindL (k : Int) : List I := if firstB k = true then (if firstB (k + 1) = true then [⟨firstV k, firstV (k + 1), false⟩] else [⟨firstV k, zV, true⟩]) else []
def kindE (k : Int) : Int := if firstB k = true then 0 else 1
theorem first_ok {k : Int} (h : firstB k = true) : validB (firstV k) = true ∧ (firstB (k + 1) = true → validB (firstV (k + 1)) = true ∧ cmpV (firstV k) (firstV (k + 1)) < 0) ∧ 1 ≤ k ∧ k ≤ 5 := by
  have hk : k = 1 ∨ k = 2 ∨ k = 3 ∨ k = 4 ∨ k = 5 := by simpa [firstB] using h
  rcases hk with rfl | rfl | rfl | rfl | rfl
  · exact ⟨by decide +kernel, fun _ => ⟨by decide +kernel, by decide +kernel⟩, by omega, by omega⟩
  · exact ⟨by decide +kernel, fun _ => ⟨by decide +kernel, by decide +kernel⟩, by omega, by omega⟩
  · exact ⟨by decide +kernel, fun _ => ⟨by decide +kernel, by decide +kernel⟩, by omega, by omega⟩
  · exact ⟨by decide +kernel, fun _ => ⟨by decide +kernel, by decide +kernel⟩, by omega, by omega⟩
  · exact ⟨by decide +kernel, fun h => by simp [firstB] at h, by omega, by omega⟩
theorem first_no {k : Int} (h : firstB k = false) : firstV k = zV := by
  have hk : ¬ (k = 1 ∨ k = 2 ∨ k = 3 ∨ k = 4 ∨ k = 5) := by simpa [firstB] using h
  unfold firstV
  rw [if_neg (by omega), if_neg (by omega)]
  rfl
end Go.Proofs.Ytmjokpakekfkfaa
