/- The law ValueJudges returns true for all codes and every value, without conditions. -/
import Derived.Test.YthlhpjickkhjfaaH
set_option linter.unusedSimpArgs false
set_option linter.unusedVariables false
namespace Go.Proofs.Ythlhpjickkhjfaa
open Go.ChangeShapes Go.WideShapes Go.ChangeAt Go.RowKit

namespace Judges
set_option maxHeartbeats 2000000 in
set_option maxRecDepth 100000 in
theorem walk (a : Option Addr) (len cap : Nat) (zs : List Int) (v : V) (w : World) (hr : IsRow .u8 w a len cap zs) (hn : -9223372036854775808 ≤ v.n) :
    Calls Try.prog 3 #[.slice a len cap, v.val] w fun e w' => e = .returned (.bool true) ∧ Below w.heap.size w w' := by
  have mx := mixed
  obtain ⟨k, n, t⟩ := v
  have hw0 : Below w.heap.size w (w.alloc (.cells #[.int .i64 k, .int .i64 n, .string t] 24)) := (Below.refl _ _).alloc (Nat.le_refl _) _
  have hN := new_calls a len cap zs _ (hr.later hw0)
  have B3 := Box.new w ⟨k, n, t⟩ 24
  have HN := Lib.hid hN
  have HW0 := Lib.hid hw0
  clear hN hw0 hr hn
  go_enter Try.func3, Try.ntmps3
  go_wp2_with fail
  refine HN.out.mono ?_
  rintro e w1 ⟨b, c, rfl, hbs, hcs, hb1⟩
  have C3 := B3.later hb1
  have hb := hcs.lt
  have HA := Lib.hid (any_calls b c w1 hcs)
  have HB1 := Lib.hid hb1
  clear hcs B3 hb1 HN
  go_wp2_with fail
  refine HA.out.mono ?_
  rintro e w2 ⟨⟨k2, n2, t2⟩, rfl, hval, hnum, hcs2, hby⟩
  have D3 := (C3.kept hby (by simp at hbs; omega)).alloc (.cells #[.int .i64 k2, .int .i64 n2, .string t2] 24)
  have D5 := Box.new w2 ⟨k2, n2, t2⟩ 24
  obtain ⟨l3, q30, q31, q32⟩ := D3.cells
  obtain ⟨l5, q50, q51, q52⟩ := D5.cells
  have hreal : realB ⟨k2, n2, t2⟩ = decide (3 ≤ k2) := by simp [realB, hval]
  have HBY := Lib.hid hby
  clear hnum hcs2 hby C3 D3 D5 HA
  go_wp2_with fail
  obtain ⟨W, hW⟩ : ∃ W, W = w2.alloc (.cells #[.int .i64 k2, .int .i64 n2, .string t2] 24) := ⟨_, rfl⟩
  rw [← hW] at l3 q30 q31 q32 l5 q50 q51 q52 ⊢
  have HW := Lib.hid hW
  clear hW
  refine wp_region_quiet_loose mx (by kernel_rfl) ?_
  repeat (quiet_step ((first | (go_at_call 13; refine loose_calls (begun_calls _)) | (go_at_call 14; refine gro_loose (valid_calls ⟨_, _, _⟩ _)) | (go_at_call 15; refine gro_loose (real_calls ⟨_, _, _⟩ _)) | (go_at_call 16; refine gro_loose (refValid_calls ⟨_, _, _⟩ _)) | (go_at_call 17; refine gro_loose (refReal_calls ⟨_, _, _⟩ _)))))
  refine wpQuiet_nil ?_
  intro x1 hw'
  obtain ⟨⟨nq, osq⟩, hw''⟩ := hw'
  subst hw''
  go_wp2
  go_ret
  have g1 : Below w.heap.size w w1 := HW0.out.trans (HB1.out.mono HW0.out.size)
  have g2 : Below w.heap.size w w2 := g1.grown HBY.out g1.size (fun k hk => by cases hk; simp at hbs; omega)
  have g3 : Below w.heap.size w W := by rw [HW.out]; exact g2.alloc g2.size _
  exact ⟨rfl, g3.trans ((below_loose W _ _).mono g3.size)⟩

set_option maxRecDepth 100000 in
theorem lifted (os : Os) (started : os.Started) (H : Type) (enc : TypeId × Value → H) :
    ReturnsInHanded {} Try.checked os 3 .any (Rows.valueJudgesSpec.pre6 enc Try.prog Try.f3 Rows.valueJudgesRow.domain false) (Rows.valueJudgesSpec.post enc Try.prog Try.f3 false true false false) := by
  refine returnsInHanded_of_change (C := Try.checked) own started (by kernel_rfl) Try.func3
    (ChangeSpec.witness6 (enc := enc) (C := Try.checked) false ⟨#[], #[.slice none 0 0, .agg #[.int .i64 0, .int .i64 0, .string ByteArray.empty]], []⟩ 8 (by kernel_rfl) (by kernel_rfl) (by kernel_rfl) (by kernel_rfl)) ?_
  intro W base args ds gs before hval0 hW hcnd hsizes
  have hval : ∀ (j : Nat) t v, Try.f3.params[j]? = some t → args[j]? = some v → Value.okWide Try.prog W .any base t v := hval0
  have hW' := hW
  obtain ⟨p, q, hA0, hV, rfl, hfz, hnd⟩ := hW
  have hA : DataW.TrodAll enc Try.prog W 0 (fun _ => true) true Try.f3.params.toList args.toList ds p := hA0
  rw [Try.params3] at hA hval
  obtain ⟨v0, vs0, d0, ds0, p0, q0, hargs, rfl, rfl, h0, r0⟩ := trodAll_cons hA
  obtain ⟨v1, vs1, d1, ds1, p1, q1, rfl, rfl, rfl, h1, r1⟩ := trodAll_cons r0
  obtain ⟨rfl, rfl, rfl⟩ := trodAll_nil r1
  obtain rfl : args = #[v0, v1] := by cases args; simp_all
  obtain ⟨rfl, rfl⟩ := trodVars_none hV
  have lt0 : ∀ x ∈ p0, x.block < W.heap.size := by obtain ⟨m, hm⟩ := h0; exact DataW.trod_lt m _ _ _ hm
  obtain ⟨a0, len0, cap0, z0, rfl, w0⟩ := open_codes (hval 0 22 v0 rfl rfl) h0
  have lt1 : ∀ x ∈ p1, x.block < W.heap.size := by obtain ⟨m, hm⟩ := h1; exact DataW.trod_lt m _ _ _ hm
  obtain ⟨x1, rfl, b1⟩ := open_V (hval 1 24 v1 rfl rfl) h1
  clear hA0 hval0
  refine (walk a0 len0 cap0 z0 x1 W w0 b1).mono fun e W' ⟨he, bel⟩ => ?_
  subst he
  exact ⟨_, rfl, _, _, _, [], _, [], hW', trodAll_mk1 (shut_bool Try.underlying4 _), (trodAll_cons_mk (Below.trod laidOut (by kernel_rfl) (of_decide_eq_true (by kernel_rfl)) h0 bel lt0) (trodAll_cons_mk (Below.trod laidOut (by kernel_rfl) (of_decide_eq_true (by kernel_rfl)) h1 bel lt1) trodAll_mk0)), rfl, bel.frame _, fun h => by cases h⟩

theorem over : Rows.valueJudgesRow.holds Try.pinned (OpenSpec.ofChange Rows.valueJudgesSpec) :=
  OpenClaim.holds_of_wide 3 Try.f3 rfl rfl rfl rfl rfl rfl rfl ⟨rfl, rfl, rfl, rfl, rfl⟩ rfl rfl rfl rfl rfl (by kernel_rfl) Try.func3 (by kernel_rfl)
    (of_decide_eq_true (by kernel_rfl)) (by unfold Func.isWrapper; first | (rw [if_pos (by decide +kernel)]; kernel_rfl) | (rw [if_neg (by decide +kernel)]; exact ⟨rfl, rfl⟩))
    (fun os started H enc _ => lifted os started H enc)
theorem proved : Rows.ValueJudgesSaid := over
end Judges
end Go.Proofs.Ythlhpjickkhjfaa
