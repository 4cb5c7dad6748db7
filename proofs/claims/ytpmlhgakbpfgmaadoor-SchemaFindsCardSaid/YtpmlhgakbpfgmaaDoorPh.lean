/- slices.ContainsFunc over a list of predicates, at the closures of predicate.Holds. -/
import Derived.Test.YtpmlhgakbpfgmaaDoorPb
set_option linter.unusedSimpArgs false
set_option linter.unusedVariables false
namespace Go.Proofs.YtpmlhgakbpfgmaaDoor
open Go.RowKit

/-- What IndexFunc answers. -/
def IdxP (f : Pr → Bool) (ps : List Pr) (w : World) (e : Ending) (w' : World) : Prop := ∃ i : Int, e = .returned (.int .i64 i) ∧ (ps.any f = true → 0 ≤ i) ∧ (ps.any f = false → i = -1) ∧ Gro w w'

end Go.Proofs.YtpmlhgakbpfgmaaDoor
/- slices.ContainsFunc over a list of predicates, at the closure of predicate.valid. -/
set_option linter.unusedSimpArgs false
set_option linter.unusedVariables false
namespace Go.Proofs.YtpmlhgakbpfgmaaDoor
open Go.RowKit

set_option maxHeartbeats 2000000 in
set_option maxRecDepth 100000 in
theorem idx_valid (S : Nat → Prop) (k : Nat) (f : Pr → Bool) (gr gq : Nat) (v : Value) (ps : List Pr) (w : World) (hp : PrIn S w (k + 1) v ps)
    (hf : ∀ (p : Pr) (s : Value) (w' : World), Below w.heap.size w w' → PrIn S w' k s p.args → p ∈ ps → Calls Tryd.prog 82 #[p.val s, .pointer (some ⟨gr, 0, none⟩), .pointer (some ⟨gq, 0, none⟩)] w' (BoolG (f p) w')) :
    Calls Tryd.prog 86 #[v, .func (.func 82) #[] #[.pointer (some ⟨gr, 0, none⟩), .pointer (some ⟨gq, 0, none⟩)]] w (IdxP f ps w) := by
  obtain ⟨w0, rfl⟩ : ∃ w0, w0 = w := ⟨_, rfl⟩
  have HF := Lib.hid hf
  have HP := Lib.hid hp
  obtain ⟨a, cap, rfl, hl, -⟩ := hp
  generalize hN : ps.length = N at hl HP ⊢
  have HN := Lib.hid hN
  clear hf hN
  go_enter Tryd.func86, Tryd.ntmps86
  go_wp2_with fail
  go_loopw [5, 8] (fun _ i wr => ∃ j : Nat, j ≤ N ∧ i = .int .i64 j ∧ (ps.take j).any f = false ∧ Gro w0 wr) (fun _ i _ => N - (intOf i).toNat)
  case atStart => exact ⟨0, by omega, rfl, by simp, Gro.refl _⟩
  case round =>
    obtain ⟨j, hj, rfl, ht, hg⟩ := hrel
    have HT := Lib.hid ht
    have HG := Lib.hid hg
    have hwk := step_i j (by omega)
    by_cases hlt : j < N
    · have hkl : j < ps.length := by rw [HN.out]; exact hlt
      have hlt' : decide ((j : Int) < (N : Int)) = true := by simp; omega
      obtain ⟨b, off, s, rfl, hbl, -, hat, hr⟩ := (HP.out.later hg.below).get hkl
      have hc := HF.out ps[j] s wr hg.below hr (List.getElem_mem hkl)
      obtain ⟨x, hx⟩ : ∃ x, ps[j] = x := ⟨_, rfl⟩
      rw [hx] at hat hc
      have HX := Lib.hid hx
      obtain ⟨q, hq⟩ : ∃ q, f x = q := ⟨_, rfl⟩
      rw [hq] at hc
      have HC := Lib.hid hc
      have HQ := Lib.hid hq
      obtain ⟨d0, d1, d2, d3, d4, d5, d6, d7, d8, d9, d10, d11, d12⟩ := hat
      clear ht hg hr hx hc hq
      cases q
      · go_wp2_with fail
        refine HC.out.mono ?_
        rintro e w2 ⟨rfl, hg2⟩
        have HG2 := Lib.hid hg2
        clear hg2
        go_wp2
        exact ⟨⟨j + 1, by omega, by go_num, by rw [List.take_succ_eq_append_getElem hkl, List.any_append, HT.out, HX.out]; simp [HQ.out], HG.out.trans HG2.out⟩, by simp [intOf]; omega⟩
      · have HIN : Hid (ps.any f = true) := by show _ = _; rw [List.any_eq_true]; exact ⟨x, by rw [← HX.out]; exact List.getElem_mem hkl, HQ.out⟩
        go_wp2_with fail
        refine HC.out.mono ?_
        rintro e w2 ⟨rfl, hg2⟩
        have HG2 := Lib.hid hg2
        clear hg2
        go_wp2
        go_ret
        exact ⟨(j : Int), rfl, (fun _ => by omega), (fun h => by rw [HIN.out] at h; cases h), HG.out.trans HG2.out⟩
    · have hlt' : decide ((j : Int) < (N : Int)) = false := by simp; omega
      have HE : Hid (ps.any f = false) := by
        show _ = _
        rw [List.take_of_length_le (by have := HN.out; omega)] at ht
        exact ht
      clear ht hg
      go_wp2
      go_ret
      exact ⟨-1, rfl, (fun h => by rw [HE.out] at h; cases h), (fun _ => rfl), HG.out⟩
set_option maxRecDepth 100000 in
theorem contains_valid (S : Nat → Prop) (k : Nat) (f : Pr → Bool) (gr gq : Nat) (v : Value) (ps : List Pr) (w : World) (hp : PrIn S w (k + 1) v ps)
    (hf : ∀ (p : Pr) (s : Value) (w' : World), Below w.heap.size w w' → PrIn S w' k s p.args → p ∈ ps → Calls Tryd.prog 82 #[p.val s, .pointer (some ⟨gr, 0, none⟩), .pointer (some ⟨gq, 0, none⟩)] w' (BoolG (f p) w')) :
    Calls Tryd.prog 81 #[v, .func (.func 82) #[] #[.pointer (some ⟨gr, 0, none⟩), .pointer (some ⟨gq, 0, none⟩)]] w (BoolG (ps.any f) w) := by
  have HI := Lib.hid (idx_valid S k f gr gq v ps w hp hf)
  obtain ⟨a, cap, rfl, -⟩ := hp
  obtain ⟨q, hq⟩ : ∃ q, ps.any f = q := ⟨_, rfl⟩
  rw [hq]
  have HQ := Lib.hid hq
  clear hf hq
  go_enter Tryd.func81, Tryd.ntmps81
  go_wp2_with fail
  refine HI.out.mono ?_
  rintro e w2 ⟨i, rfl, h1, h2, hg⟩
  have HG := Lib.hid hg
  rw [HQ.out] at h1 h2
  cases q
  · have : i = -1 := h2 rfl
    subst this
    clear h1 h2 hg
    go_wp2
    go_ret
    exact boolg (by simp) HG.out
  · have hi : 0 ≤ i := h1 rfl
    clear h1 h2 hg
    go_wp2
    go_ret
    exact boolg (by simp [hi]) HG.out
end Go.Proofs.YtpmlhgakbpfgmaaDoor
