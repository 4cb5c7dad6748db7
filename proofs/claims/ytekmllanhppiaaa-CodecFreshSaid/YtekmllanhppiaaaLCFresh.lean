/- The law CodecFresh returns true for all codes, bytes and numbers, without conditions. -/
import Derived.Test.YtekmllanhppiaaaCu
import Derived.Test.YtekmllanhppiaaaCv
set_option linter.unusedSimpArgs false
set_option linter.unusedVariables false
namespace Go.Proofs.Ytekmllanhppiaaa
open Go.ChangeShapes Go.WideShapes Go.ChangeAt Go.RowKit Go.Joins

namespace CFresh
open Go.Lib (byteCells uvarint zigzag)
set_option maxHeartbeats 2000000 in
set_option maxRecDepth 100000 in
theorem walk (a : Option Addr) (len cap : Nat) (zs : List Int) (a' : Option Addr) (len' cap' : Nat) (zs' : List Int) (n : Nat) (w : World)
    (hr : IsRow .u8 w a len cap zs) (hr' : IsRow .u8 w a' len' cap' zs') (hn : n < 18446744073709551616) :
    Calls Try.prog 11 #[.slice a len cap, .slice a' len' cap', .int .u64 n] w fun e w' => e = .returned (.bool true) ∧ Below w.heap.size w w' := by
  have hmx := mixed
  have HN := Lib.hid (new_calls a len cap zs w hr)
  have HNN := Lib.hid hn
  obtain ⟨bsh, hbh⟩ := bytes_of_row hr'
  have HBH := Lib.hid hbh
  clear hr hr' hn hbh
  go_enter Try.func11, Try.ntmps11
  go_wp2_with fail
  refine HN.out.mono ?_
  rintro e w1 ⟨b, c, rfl, hbs, hcs, hb1⟩
  have HBS := Lib.hid hbs
  have HB1 := Lib.hid hb1
  have HI := Lib.hid (int_calls b c 3 (by omega) (by omega) w1 hcs)
  clear HN hbs hcs hb1
  go_wp2_with fail
  refine HI.out.mono ?_
  rintro e w2 ⟨x, rfl, hx0, hx1, hcs, hby⟩
  obtain ⟨k, rfl⟩ : ∃ k : Nat, x = k := ⟨x.toNat, by omega⟩
  have HB2 := Lib.hid (below_case HB1.out HBS.out hby)
  have HK : Hid (1 ≤ k + 1 ∧ k + 1 ≤ 3) := by show _ ∧ _; omega
  have hk1 : (1 : Int) + (k : Int) = ((k + 1 : Nat) : Int) := by push_cast; omega
  have hk2 : wrap64 ((k + 1 : Nat) : Int) = ((k + 1 : Nat) : Int) := by unfold wrap64; omega
  obtain ⟨k1, hkk⟩ : ∃ k1, k1 = k + 1 := ⟨_, rfl⟩
  rw [← hkk] at hk1 hk2 HK
  have HC := Lib.hid (cellsv_calls b c k1 (by have := HK.out; omega) w2 hcs)
  clear HI hcs hby hx0 hx1 hkk
  go_wp2_with fail
  refine HC.out.mono ?_
  rintro e w3 ⟨vr, r, rfl, hrl, hown, hcs, hby, hall⟩
  have HB3 := Lib.hid (below_case HB2.out HBS.out hby)
  have hr12 : r.length ≤ 12 := by have := HK.out; omega
  have hr0 : 0 < r.length := by have := HK.out; omega
  have HR12 := Lib.hid hr12
  have HR0 := Lib.hid hr0
  have HALL := Lib.hid hall
  have HROW3 : Hid (RowAt w3 vr r) := .of_owned hown (by omega)
  obtain ⟨ra, rc, rfl, -, hrin⟩ := HROW3.out
  obtain ⟨rb, ro, rfl, hrow⟩ := hrin.resolve_left (by rintro rfl; simp at hr0)
  have hat0 := hrow.at_ 0 hr0
  obtain ⟨x0, hat0', hx0⟩ : ∃ x0, At w3 rb (ro + 0 * 3) x0 ∧ (validB x0 = true ∧ isI64 x0.n) := ⟨_, hat0, hall.i64 _ (List.getElem_mem hr0)⟩
  have HX0 := Lib.hid hx0
  obtain ⟨xk, xn, xt⟩ := x0
  have HAT0 := Lib.hid hat0'
  have HRB := Lib.hid hrow.blk
  obtain ⟨R, hR⟩ : ∃ R, R = r.length := ⟨_, rfl⟩
  rw [← hR] at HROW3 ⊢
  have HR0' : Hid (0 < R) := by show _ < _; omega
  clear hrin hrow hat0 hat0' hx0 hR
  have HP1 := Lib.hid (part_calls _ bsh w3 (HBH.out.later HB3.out))
  clear HC hrl hown hcs hby hall hr12 hr0 hk1 hk2
  go_wp2_with fail
  refine HP1.out.mono ?_
  rintro e w4 ⟨vh, rfl, hath, rfl⟩
  have hl : (bsh.take 200).length ≤ 200 := by simp; omega
  generalize bsh.take 200 = bs at hath hl
  have HATH := Lib.hid hath
  have HL := Lib.hid hl
  have HNIL := Lib.hid (Own.nil w3.heap.size w3)
  clear HP1 hath hl
  go_wp2_with (at_builtin; go_must (refine wpList_append_bytes rfl _ _ rfl w3.heap.size _ [] rfl HNIL.out vh bs rfl HATH.out ?c0 ?c1 ?_))
  case c0 => have := HL.out; simp; omega
  case c1 => exact Nat.le_refl _
  intro v4 w4 ho4 hb4
  have HO4 := Lib.hid ho4
  have HB34 := Lib.hid hb4
  clear ho4 hb4
  go_wp2_with (at_builtin; go_must (refine wpList_append_text' rfl _ _ rfl w3.heap.size _ bs rfl HO4.out _ rfl ?c0 ?c1 ?_))
  case c0 => have := HL.out; show bs.length + 80 ≤ _; omega
  case c1 => exact HB34.out.size
  intro v5 w5 ho5 hb5
  have ho5' : Own w3.heap.size w5 v5 (bs ++ List.replicate 80 46) := ho5
  obtain ⟨D, hD⟩ : ∃ D, D = bs ++ List.replicate 80 46 := ⟨_, rfl⟩
  rw [← hD] at ho5'
  have hDl : D.length = bs.length + 80 := by rw [hD]; simp
  have hDt : D.take bs.length = bs := by rw [hD, List.take_left]
  have HB35 := Lib.hid (HB34.out.trans hb5)
  have HB5 := Lib.hid (HB3.out.trans (HB35.out.mono HB3.out.size))
  have hat := ho5'.at_
  obtain ⟨va, vc, rfl, q1, q2, q3, -⟩ := bytes_value hat
  have hcv := fun w' (hb : Below w5.heap.size w5 w') => convert_bytes (hat.later hb)
  have hcv5 := hcv w5 (Below.refl _ _)
  have HCV := Lib.hid hcv
  obtain ⟨L, hL⟩ : ∃ L, L = bs.length := ⟨_, rfl⟩
  obtain ⟨M, hM⟩ : ∃ M, M = D.length := ⟨_, rfl⟩
  have hatk : BytesAt w5 (.slice va L vc) bs := by
    have := hat.to_ L (by omega)
    rw [hL, hDt] at this
    rw [hL]; exact this
  have HATK := Lib.hid hatk
  have hsl := slice_to_i va vc M L (by omega) (by rw [hM]; exact q1) q2
  have HLL := Lib.hid hL
  have m1 : (M : Int) - 80 = (L : Int) := by omega
  have hL200 : L ≤ 200 := by have := HL.out; omega
  have m2 : wrap64 (L : Int) = (L : Int) := by unfold wrap64; omega
  rw [← hM] at hcv5 HCV ⊢
  clear ho5 hb5 ho5' hD hDl hDt hat q1 q3 hcv hL hM hatk
  have ha := AppendUint_calls _ bs n HNN.out w5 HATK.out (by have := HL.out; omega)
  have HA := Lib.hid ha
  clear ha
  go_wp2_with fail
  refine HA.out.mono ?_
  rintro e w6 ⟨v6, rfl, -, hb⟩
  have HB56 := Lib.hid hb
  have hw := wrap64 n
  have hx : isI64 (wrap64 (n : Int)) := by unfold isI64 wrap64; omega
  have ha := AppendInt_calls _ bs _ hx w6 (HATK.out.later hb) (by have := HL.out; omega)
  have HA := Lib.hid ha
  clear ha hb hx hw
  go_wp2_with fail
  refine HA.out.mono ?_
  rintro e w7 ⟨v7, rfl, -, hb⟩
  have HB57 := Lib.hid (HB56.out.trans (hb.mono HB56.out.size))
  have HAT7 := Lib.hid (HATK.out.later HB57.out)
  clear hb
  go_wp2_with fail
  have ha := AppendText_calls _ bs ⟨#[120, 121, 122]⟩ w7 HAT7.out (by have := HL.out; show _ + 10 + 3 ≤ _; omega)
  have HA := Lib.hid ha
  clear ha
  refine HA.out.mono ?_
  rintro e w8 ⟨v8, rfl, -, hb⟩
  have HB58 := Lib.hid (HB57.out.trans (hb.mono HB57.out.size))
  have HB38 := Lib.hid (HB35.out.trans (HB58.out.mono HB35.out.size))
  have hat8 := HAT0.out.later HRB.out HB38.out
  have k0 := hat8.k
  have k1' := hat8.n
  have k2 := hat8.t
  rw [Nat.zero_mul, Nat.add_zero] at k0 k1' k2
  have krb := Nat.lt_of_lt_of_le HRB.out HB38.out.size
  have hR0 := HR0'.out
  have ha := AppendValue_calls (.slice va L vc) bs ⟨xk, xn, xt⟩ w8.drew (HATK.out.later (HB58.out.drew)) (by have := HL.out; omega) HX0.out.2
  have HA := Lib.hid ha
  clear ha hb hat8
  go_wp2_with fail
  refine still_tail_drew 6 hmx (by kernel_rfl) ?_
  simp only [List.take_succ_cons, List.take_zero, List.drop_succ_cons, List.drop_zero]
  repeat still_step
  refine wpStill_nil ?_
  go_wp2_with fail
  refine HA.out.mono ?_
  intro e w9 ho
  unfold ValOut at ho
  rw [if_pos HX0.out.1] at ho
  obtain ⟨v9, rfl, -, hb⟩ := ho
  have HB59 := Lib.hid (HB58.out.drew.trans (hb.mono HB58.out.size))
  have HB39 := Lib.hid (HB35.out.trans (HB59.out.mono HB35.out.size))
  have ha := AppendRow_calls _ _ bs r w9 (HATK.out.later HB59.out) (by have := HL.out; omega) (HROW3.out.later HB39.out) (fun x hx => (HALL.out.i64 x hx).2)
  have HA := Lib.hid ha
  clear ha hb k0 k1' k2 krb hR0
  go_wp2_with fail
  refine HA.out.mono ?_
  intro e w10 ho
  obtain ⟨v10, rfl, -, hb⟩ := rowOut_ok ho HR12.out HALL.out
  have HB510 := Lib.hid (HB59.out.trans (hb.mono HB59.out.size))
  clear hb ho
  go_wp2_with fail
  refine (begun2_calls _).mono ?_
  rintro e w11 ⟨rfl, hb⟩
  have HB511 := Lib.hid (HB510.out.trans (hb.mono HB510.out.size))
  have hcv := HCV.out w11 HB511.out
  clear hb
  go_wp2
  go_ret
  exact ⟨by simp, HB5.out.trans (HB511.out.mono HB5.out.size)⟩
set_option maxRecDepth 100000 in
theorem lifted (os : Os) (started : os.Started) (H : Type) (enc : TypeId × Value → H) :
    ReturnsInHanded {} Try.checked os 11 .any (Rows.codecFreshSpec.pre6 enc Try.prog Try.f11 Rows.codecFreshRow.domain false) (Rows.codecFreshSpec.post enc Try.prog Try.f11 false true false false) := by
  refine returnsInHanded_of_change (C := Try.checked) own started (by kernel_rfl) Try.func11
    (ChangeSpec.witness6 (enc := enc) (C := Try.checked) false ⟨#[], #[.slice none 0 0, .slice none 0 0, .int .u64 0], []⟩ 8 (by kernel_rfl) (by kernel_rfl) (by kernel_rfl) (by kernel_rfl)) ?_
  intro W base args ds gs before hval0 hW hcnd hsizes
  have hval : ∀ (j : Nat) t v, Try.f11.params[j]? = some t → args[j]? = some v → Value.okWide Try.prog W .any base t v := hval0
  have hW' := hW
  obtain ⟨p, q, hA0, hV, rfl, hfz, hnd⟩ := hW
  have hA : DataW.TrodAll enc Try.prog W 0 (fun _ => true) true Try.f11.params.toList args.toList ds p := hA0
  rw [Try.params11] at hA hval
  obtain ⟨v0, vs0, d0, ds0, p0, q0, hargs, rfl, rfl, h0, r0⟩ := trodAll_cons hA
  obtain ⟨v1, vs1, d1, ds1, p1, q1, rfl, rfl, rfl, h1, r1⟩ := trodAll_cons r0
  obtain ⟨v2, vs2, d2, ds2, p2, q2, rfl, rfl, rfl, h2, r2⟩ := trodAll_cons r1
  obtain ⟨rfl, rfl, rfl⟩ := trodAll_nil r2
  obtain rfl : args = #[v0, v1, v2] := by cases args; simp_all
  obtain ⟨rfl, rfl⟩ := trodVars_none hV
  have lt0 : ∀ x ∈ p0, x.block < W.heap.size := by obtain ⟨m, hm⟩ := h0; exact DataW.trod_lt m _ _ _ hm
  obtain ⟨a0, len0, cap0, z0, rfl, w0⟩ := open_codes (hval 0 22 v0 rfl rfl) h0
  have lt1 : ∀ x ∈ p1, x.block < W.heap.size := by obtain ⟨m, hm⟩ := h1; exact DataW.trod_lt m _ _ _ hm
  obtain ⟨a1, len1, cap1, z1, rfl, w1⟩ := open_codes (hval 1 22 v1 rfl rfl) h1
  have lt2 : ∀ x ∈ p2, x.block < W.heap.size := by obtain ⟨m, hm⟩ := h2; exact DataW.trod_lt m _ _ _ hm
  obtain ⟨x2, rfl, b2⟩ := open_u64 (hval 2 34 v2 rfl rfl) h2
  clear hA0 hval0
  refine (walk a0 len0 cap0 z0 a1 len1 cap1 z1 x2 W w0 w1 b2).mono fun e W' ⟨he, bel⟩ => ?_
  subst he
  exact ⟨_, rfl, _, _, _, [], _, [], hW', trodAll_mk1 (shut_bool Try.underlying4 _), (trodAll_cons_mk (Below.trod laidOut (by kernel_rfl) (of_decide_eq_true (by kernel_rfl)) h0 bel lt0) (trodAll_cons_mk (Below.trod laidOut (by kernel_rfl) (of_decide_eq_true (by kernel_rfl)) h1 bel lt1) (trodAll_cons_mk (Below.trod laidOut (by kernel_rfl) (of_decide_eq_true (by kernel_rfl)) h2 bel lt2) trodAll_mk0))), rfl, bel.frame _, fun h => by cases h⟩

theorem over : Rows.codecFreshRow.holds Try.pinned (OpenSpec.ofChange Rows.codecFreshSpec) :=
  OpenClaim.holds_of_wide 11 Try.f11 rfl rfl rfl rfl rfl rfl rfl ⟨rfl, rfl, rfl, rfl, rfl⟩ rfl rfl rfl rfl rfl (by kernel_rfl) Try.func11 (by kernel_rfl)
    (of_decide_eq_true (by kernel_rfl)) (by unfold Func.isWrapper; first | (rw [if_pos (by decide +kernel)]; kernel_rfl) | (rw [if_neg (by decide +kernel)]; exact ⟨rfl, rfl⟩))
    (fun os started H enc _ => lifted os started H enc)
theorem proved : Rows.CodecFreshSaid := over
end CFresh
end Go.Proofs.Ytekmllanhppiaaa
