/- The law CodecReadsNumbers returns true for all bytes, places and limits, without conditions. -/
import Derived.Test.YtekmllanhppiaaaCo
set_option linter.unusedSimpArgs false
set_option linter.unusedVariables false
namespace Go.Proofs.Ytekmllanhppiaaa
open Go.ChangeShapes Go.WideShapes Go.ChangeAt Go.RowKit Go.Joins

namespace ReadsNumbers
open Go.Lib (byteCells uvarint zigzag)
set_option maxHeartbeats 2000000 in
set_option maxRecDepth 100000 in
theorem walk (a : Option Addr) (len cap : Nat) (zs : List Int) (p most : Int) (w : World) (hr : IsRow .u8 w a len cap zs) (hp : isI64 p) (hm : isI64 most) :
    Calls Try.prog 6 #[.slice a len cap, .int .i64 p, .int .i64 most] w fun e w' => e = .returned (.bool true) ∧ Below w.heap.size w w' := by
  obtain ⟨bs0, hb0⟩ := bytes_of_row hr
  have HP := Lib.hid (part_calls _ bs0 w hb0)
  have hl : (bs0.take 200).length ≤ 200 := by simp; omega
  generalize bs0.take 200 = bs at HP hl
  have HM := Lib.hid hm.2
  have HL : Hid (bs.length ≤ 1099511627776) := by show _ ≤ _; omega
  clear hb0 hr hm hl hp
  obtain ⟨U, hU⟩ : ∃ U, U = readAt (rdU 0 0) 0 bs p := ⟨_, rfl⟩
  obtain ⟨I, hI⟩ : ∃ I, I = readAt rdI 0 bs p := ⟨_, rfl⟩
  obtain ⟨X, hX⟩ : ∃ X, X = textAt most bs p := ⟨_, rfl⟩
  have HU := Lib.hid hU
  have HI := Lib.hid hI
  have HX := Lib.hid hX
  obtain ⟨u1, u2, u3⟩ := U
  obtain ⟨i1, i2, i3⟩ := I
  obtain ⟨x1, x2, x3⟩ := X
  clear hU hI hX
  go_enter Try.func6, Try.ntmps6
  go_wp2_with fail
  refine HP.out.mono ?_
  rintro e w1 ⟨vb, rfl, hat, rfl⟩
  have HAT := Lib.hid hat
  have h1 := Uint_calls vb bs p w hat HL.out
  rw [← HU.out] at h1
  simp only [triple, mkU] at h1
  have H1 := Lib.hid h1
  clear hat HP h1
  go_wp2_with fail
  refine H1.out.mono ?_
  rintro e w1 ⟨rfl, hb1⟩
  have HB1 := Lib.hid hb1
  have h2 := refUint_calls' vb bs p w1 (HAT.out.later hb1) HL.out
  rw [← HU.out] at h2
  simp only [triple, mkU] at h2
  have H2 := Lib.hid h2
  clear hb1 h2 H1
  go_wp2_with fail
  refine H2.out.mono ?_
  rintro e w2 ⟨rfl, rfl⟩
  have h1 := Int_calls vb bs p w1 (HAT.out.later HB1.out) HL.out
  rw [← HI.out] at h1
  simp only [triple, mkI] at h1
  have H1 := Lib.hid h1
  clear h1 H2
  go_wp2_with fail
  refine H1.out.mono ?_
  rintro e w2 ⟨rfl, hb2⟩
  have HB2 := Lib.hid (HB1.out.trans (hb2.mono HB1.out.size))
  have h2 := refInt_calls vb bs p w2 (HAT.out.later HB2.out) HL.out
  rw [← HI.out] at h2
  simp only [triple, mkI] at h2
  have H2 := Lib.hid h2
  clear hb2 h2 H1
  go_wp2_with fail
  refine H2.out.mono ?_
  rintro e w3 ⟨rfl, rfl⟩
  have h1 := Text_calls vb bs p most HM.out w2 (HAT.out.later HB2.out) HL.out
  rw [← HX.out] at h1
  simp only [triple, mkT] at h1
  have H1 := Lib.hid h1
  clear h1 H2
  go_wp2_with fail
  refine H1.out.mono ?_
  rintro e w3 ⟨rfl, hb3⟩
  have HB3 := Lib.hid (HB2.out.trans (hb3.mono HB2.out.size))
  have h2 := refText_calls vb bs p most HM.out w3 (HAT.out.later HB3.out) HL.out
  rw [← HX.out] at h2
  simp only [triple, mkT] at h2
  have H2 := Lib.hid h2
  clear hb3 h2 H1
  go_wp2_with fail
  refine H2.out.mono ?_
  rintro e w4 ⟨rfl, rfl⟩
  clear H2
  go_wp2_with fail
  refine (begun2_calls _).mono ?_
  rintro e w4 ⟨rfl, hb4⟩
  have HB4 := Lib.hid (HB3.out.trans (hb4.mono HB3.out.size))
  clear hb4
  go_wp2
  go_ret
  exact ⟨by simp, HB4.out⟩
set_option maxRecDepth 100000 in
theorem lifted (os : Os) (started : os.Started) (H : Type) (enc : TypeId × Value → H) :
    ReturnsInHanded {} Try.checked os 6 .any (Rows.codecReadsNumbersSpec.pre6 enc Try.prog Try.f6 Rows.codecReadsNumbersRow.domain false) (Rows.codecReadsNumbersSpec.post enc Try.prog Try.f6 false true false false) := by
  refine returnsInHanded_of_change (C := Try.checked) own started (by kernel_rfl) Try.func6
    (ChangeSpec.witness6 (enc := enc) (C := Try.checked) false ⟨#[], #[.slice none 0 0, .int .i64 0, .int .i64 0], []⟩ 8 (by kernel_rfl) (by kernel_rfl) (by kernel_rfl) (by kernel_rfl)) ?_
  intro W base args ds gs before hval0 hW hcnd hsizes
  have hval : ∀ (j : Nat) t v, Try.f6.params[j]? = some t → args[j]? = some v → Value.okWide Try.prog W .any base t v := hval0
  have hW' := hW
  obtain ⟨p, q, hA0, hV, rfl, hfz, hnd⟩ := hW
  have hA : DataW.TrodAll enc Try.prog W 0 (fun _ => true) true Try.f6.params.toList args.toList ds p := hA0
  rw [Try.params6] at hA hval
  obtain ⟨v0, vs0, d0, ds0, p0, q0, hargs, rfl, rfl, h0, r0⟩ := trodAll_cons hA
  obtain ⟨v1, vs1, d1, ds1, p1, q1, rfl, rfl, rfl, h1, r1⟩ := trodAll_cons r0
  obtain ⟨v2, vs2, d2, ds2, p2, q2, rfl, rfl, rfl, h2, r2⟩ := trodAll_cons r1
  obtain ⟨rfl, rfl, rfl⟩ := trodAll_nil r2
  obtain rfl : args = #[v0, v1, v2] := by cases args; simp_all
  obtain ⟨rfl, rfl⟩ := trodVars_none hV
  have lt0 : ∀ x ∈ p0, x.block < W.heap.size := by obtain ⟨m, hm⟩ := h0; exact DataW.trod_lt m _ _ _ hm
  obtain ⟨a0, len0, cap0, z0, rfl, w0⟩ := open_codes (hval 0 22 v0 rfl rfl) h0
  have lt1 : ∀ x ∈ p1, x.block < W.heap.size := by obtain ⟨m, hm⟩ := h1; exact DataW.trod_lt m _ _ _ hm
  obtain ⟨x1, rfl, b1⟩ := open_int' (hval 1 3 v1 rfl rfl) h1
  have lt2 : ∀ x ∈ p2, x.block < W.heap.size := by obtain ⟨m, hm⟩ := h2; exact DataW.trod_lt m _ _ _ hm
  obtain ⟨x2, rfl, b2⟩ := open_int' (hval 2 3 v2 rfl rfl) h2
  clear hA0 hval0
  refine (walk a0 len0 cap0 z0 x1 x2 W w0 b1 b2).mono fun e W' ⟨he, bel⟩ => ?_
  subst he
  exact ⟨_, rfl, _, _, _, [], _, [], hW', trodAll_mk1 (shut_bool Try.underlying4 _), (trodAll_cons_mk (Below.trod laidOut (by kernel_rfl) (of_decide_eq_true (by kernel_rfl)) h0 bel lt0) (trodAll_cons_mk (Below.trod laidOut (by kernel_rfl) (of_decide_eq_true (by kernel_rfl)) h1 bel lt1) (trodAll_cons_mk (Below.trod laidOut (by kernel_rfl) (of_decide_eq_true (by kernel_rfl)) h2 bel lt2) trodAll_mk0))), rfl, bel.frame _, fun h => by cases h⟩

theorem over : Rows.codecReadsNumbersRow.holds Try.pinned (OpenSpec.ofChange Rows.codecReadsNumbersSpec) :=
  OpenClaim.holds_of_wide 6 Try.f6 rfl rfl rfl rfl rfl rfl rfl ⟨rfl, rfl, rfl, rfl, rfl⟩ rfl rfl rfl rfl rfl (by kernel_rfl) Try.func6 (by kernel_rfl)
    (of_decide_eq_true (by kernel_rfl)) (by unfold Func.isWrapper; first | (rw [if_pos (by decide +kernel)]; kernel_rfl) | (rw [if_neg (by decide +kernel)]; exact ⟨rfl, rfl⟩))
    (fun os started H enc _ => lifted os started H enc)
theorem proved : Rows.CodecReadsNumbersSaid := over
end ReadsNumbers
end Go.Proofs.Ytekmllanhppiaaa
