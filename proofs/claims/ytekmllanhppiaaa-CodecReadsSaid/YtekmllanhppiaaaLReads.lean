/- The law CodecReads returns true for all bytes and places, without conditions. -/
import Derived.Test.YtekmllanhppiaaaCo
import Derived.Test.YtekmllanhppiaaaCy
import Derived.Test.YtekmllanhppiaaaCk
import Derived.Test.YtekmllanhppiaaaCw
import Derived.Test.YtekmllanhppiaaaH
import Derived.Test.YtekmllanhppiaaaR
set_option linter.unusedSimpArgs false
set_option linter.unusedVariables false
namespace Go.Proofs.Ytekmllanhppiaaa
open Go.ChangeShapes Go.WideShapes Go.ChangeAt Go.RowKit Go.Joins

namespace Reads
open Go.Lib (byteCells uvarint zigzag)
theorem below_alloc {w w1 : World} (h : Below w.heap.size w w1) (o : Obj) : Below w.heap.size w (w1.alloc o) := h.alloc h.size o
set_option maxHeartbeats 2000000 in
set_option maxRecDepth 100000 in
theorem walk (a : Option Addr) (len cap : Nat) (zs : List Int) (p : Int) (w : World) (hr : IsRow .u8 w a len cap zs) (hp : isI64 p) :
    Calls Try.prog 7 #[.slice a len cap, .int .i64 p] w fun e w' => e = .returned (.bool true) ∧ Below w.heap.size w w' := by
  obtain ⟨bs0, hb0⟩ := bytes_of_row hr
  have HP := Lib.hid (part_calls _ bs0 w hb0)
  have hl : (bs0.take 200).length ≤ 200 := by simp; omega
  generalize bs0.take 200 = bs at HP hl
  have HL : Hid (bs.length ≤ 1099511627776) := by show _ ≤ _; omega
  clear hb0 hr hl hp
  obtain ⟨V0, hV⟩ : ∃ V0, V0 = readAt rdV zV bs p := ⟨_, rfl⟩
  obtain ⟨R0, hR⟩ : ∃ R0, R0 = readAt rdR [] bs p := ⟨_, rfl⟩
  have HV := Lib.hid hV
  have HR := Lib.hid hR
  obtain ⟨⟨vk, vn, vt⟩, v2, v3⟩ := V0
  obtain ⟨rx, r2, r3⟩ := R0
  clear hV hR
  have hc0 : cmpR rx rx = 0 := goodR.self _
  have HC0 := Lib.hid hc0
  clear hc0
  go_enter Try.func7, Try.ntmps7
  go_wp2_with fail
  refine HP.out.mono ?_
  rintro e w1 ⟨vb, rfl, hat, rfl⟩
  have HAT := Lib.hid hat
  have h1 := Value_calls vb bs p w hat HL.out
  rw [show (⟨0, 0, ⟨#[]⟩⟩ : V) = zV from rfl, ← HV.out] at h1
  simp only [triple, V.val] at h1
  have H1 := Lib.hid h1
  clear hat HP h1
  go_wp2_with fail
  refine H1.out.mono ?_
  rintro e w1 ⟨rfl, hb1⟩
  have HB1 := Lib.hid (below_alloc hb1 (.cells #[.int .i64 vk, .int .i64 vn, .string vt] 42))
  have BX1 := Lib.hid (Box.new w1 ⟨vk, vn, vt⟩ 42)
  have h2 := refValue_reads vb bs p _ (HAT.out.later HB1.out) HL.out
  rw [← HV.out] at h2
  simp only [triple, V.val] at h2
  have H2 := Lib.hid h2
  clear hb1 h2 H1
  go_wp2_with fail
  refine H2.out.mono ?_
  rintro e w2 ⟨rfl, hb2⟩
  have HB2 := Lib.hid (below_alloc (HB1.out.trans (hb2.mono HB1.out.size)) (.cells #[.int .i64 vk, .int .i64 vn, .string vt] 42))
  have BX2 := Lib.hid ((BX1.out.later hb2).alloc (.cells #[.int .i64 vk, .int .i64 vn, .string vt] 42))
  have BY2 := Lib.hid (Box.new w2 ⟨vk, vn, vt⟩ 42)
  have h1 := Row_calls vb bs p _ (HAT.out.later HB2.out) HL.out
  rw [← HR.out] at h1
  have H1 := Lib.hid h1
  clear hb2 h1 H2
  go_wp2_with fail
  refine H1.out.mono ?_
  rintro e w3 ⟨va, rfl, hra, -, hb3⟩
  have HB3 := Lib.hid (HB2.out.trans (hb3.mono HB2.out.size))
  have BX3 := Lib.hid (BX2.out.later hb3)
  have BY3 := Lib.hid (BY2.out.later hb3)
  have HRA := Lib.hid hra
  have h2 := refRow_calls vb bs p w3 (HAT.out.later HB3.out) HL.out
  rw [← HR.out] at h2
  have H2 := Lib.hid h2
  clear hb3 h2 H1 hra
  go_wp2_with fail
  refine H2.out.mono ?_
  rintro e w4 ⟨vc, rfl, hrc, -, hb4⟩
  have HB4 := Lib.hid (HB3.out.trans (hb4.mono HB3.out.size))
  have BX4 := Lib.hid (BX3.out.later hb4)
  have BY4 := Lib.hid (BY3.out.later hb4)
  have HRA4 := Lib.hid (HRA.out.later hb4)
  have HRC := Lib.hid hrc
  clear hb4 H2 hrc
  go_wp2_with fail
  refine (begun2_calls _).mono ?_
  rintro e w5 ⟨rfl, hb5⟩
  have HB5 := Lib.hid (HB4.out.trans (hb5.mono HB4.out.size))
  have HX := Lib.hid (refCompareRows_calls va vc rx rx w5 (HRA4.out.later hb5) (HRC.out.later hb5))
  obtain ⟨lx, x0, x1, x2⟩ := (BX4.out.later hb5).cells
  obtain ⟨ly, y0, y1, y2⟩ := (BY4.out.later hb5).cells
  have he1 := fun w => (eql_V vk vn vk vn vt vt w).trans (by rw [decide_eq_true rfl])
  have mx := mixed
  clear hb5
  go_wp2_with fail
  refine HX.out.mono ?_
  rintro e w6 ⟨rfl, hg6⟩
  have HB6 := Lib.hid (HB5.out.trans (hg6.below.mono HB5.out.size))
  rw [HC0.out]
  clear hg6 HX
  go_wp2
  go_ret
  exact ⟨by simp, HB6.out⟩
set_option maxRecDepth 100000 in
theorem lifted (os : Os) (started : os.Started) (H : Type) (enc : TypeId × Value → H) :
    ReturnsInHanded {} Try.checked os 7 .any (Rows.codecReadsSpec.pre6 enc Try.prog Try.f7 Rows.codecReadsRow.domain false) (Rows.codecReadsSpec.post enc Try.prog Try.f7 false true false false) := by
  refine returnsInHanded_of_change (C := Try.checked) own started (by kernel_rfl) Try.func7
    (ChangeSpec.witness6 (enc := enc) (C := Try.checked) false ⟨#[], #[.slice none 0 0, .int .i64 0], []⟩ 8 (by kernel_rfl) (by kernel_rfl) (by kernel_rfl) (by kernel_rfl)) ?_
  intro W base args ds gs before hval0 hW hcnd hsizes
  have hval : ∀ (j : Nat) t v, Try.f7.params[j]? = some t → args[j]? = some v → Value.okWide Try.prog W .any base t v := hval0
  have hW' := hW
  obtain ⟨p, q, hA0, hV, rfl, hfz, hnd⟩ := hW
  have hA : DataW.TrodAll enc Try.prog W 0 (fun _ => true) true Try.f7.params.toList args.toList ds p := hA0
  rw [Try.params7] at hA hval
  obtain ⟨v0, vs0, d0, ds0, p0, q0, hargs, rfl, rfl, h0, r0⟩ := trodAll_cons hA
  obtain ⟨v1, vs1, d1, ds1, p1, q1, rfl, rfl, rfl, h1, r1⟩ := trodAll_cons r0
  obtain ⟨rfl, rfl, rfl⟩ := trodAll_nil r1
  obtain rfl : args = #[v0, v1] := by cases args; simp_all
  obtain ⟨rfl, rfl⟩ := trodVars_none hV
  have lt0 : ∀ x ∈ p0, x.block < W.heap.size := by obtain ⟨m, hm⟩ := h0; exact DataW.trod_lt m _ _ _ hm
  obtain ⟨a0, len0, cap0, z0, rfl, w0⟩ := open_codes (hval 0 22 v0 rfl rfl) h0
  have lt1 : ∀ x ∈ p1, x.block < W.heap.size := by obtain ⟨m, hm⟩ := h1; exact DataW.trod_lt m _ _ _ hm
  obtain ⟨x1, rfl, b1⟩ := open_int' (hval 1 3 v1 rfl rfl) h1
  clear hA0 hval0
  refine (walk a0 len0 cap0 z0 x1 W w0 b1).mono fun e W' ⟨he, bel⟩ => ?_
  subst he
  exact ⟨_, rfl, _, _, _, [], _, [], hW', trodAll_mk1 (shut_bool Try.underlying4 _), (trodAll_cons_mk (Below.trod laidOut (by kernel_rfl) (of_decide_eq_true (by kernel_rfl)) h0 bel lt0) (trodAll_cons_mk (Below.trod laidOut (by kernel_rfl) (of_decide_eq_true (by kernel_rfl)) h1 bel lt1) trodAll_mk0)), rfl, bel.frame _, fun h => by cases h⟩

theorem over : Rows.codecReadsRow.holds Try.pinned (OpenSpec.ofChange Rows.codecReadsSpec) :=
  OpenClaim.holds_of_wide 7 Try.f7 rfl rfl rfl rfl rfl rfl rfl ⟨rfl, rfl, rfl, rfl, rfl⟩ rfl rfl rfl rfl rfl (by kernel_rfl) Try.func7 (by kernel_rfl)
    (of_decide_eq_true (by kernel_rfl)) (by unfold Func.isWrapper; first | (rw [if_pos (by decide +kernel)]; kernel_rfl) | (rw [if_neg (by decide +kernel)]; exact ⟨rfl, rfl⟩))
    (fun os started H enc _ => lifted os started H enc)
theorem proved : Rows.CodecReadsSaid := over
end Reads
end Go.Proofs.Ytekmllanhppiaaa
