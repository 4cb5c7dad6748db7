/- The law CodecCuts returns true for all codes, numbers and places, without conditions. -/
import Derived.Test.YtekmllanhppiaaaCu
set_option linter.unusedSimpArgs false
set_option linter.unusedVariables false
namespace Go.Proofs.Ytekmllanhppiaaa
open Go.ChangeShapes Go.WideShapes Go.ChangeAt Go.RowKit Go.Joins

namespace Cuts
open Go.Lib (byteCells uvarint zigzag)
set_option maxHeartbeats 2000000 in
set_option maxRecDepth 100000 in
theorem walk (a : Option Addr) (len cap : Nat) (zs : List Int) (n : Nat) (y : Nat) (w : World) (hr : IsRow .u8 w a len cap zs) (hn : n < 18446744073709551616) (hy : y < 256) :
    Calls Try.prog 10 #[.slice a len cap, .int .u64 n, .int .u8 y] w fun e w' => e = .returned (.bool true) ∧ Below w.heap.size w w' := by
  have HN := Lib.hid (new_calls a len cap zs w hr)
  have HNN := Lib.hid hn
  clear hr hn
  go_enter Try.func10, Try.ntmps10
  go_wp2_with fail
  refine HN.out.mono ?_
  rintro e w1 ⟨b, c, rfl, hbs, hcs, hb1⟩
  have HBS := Lib.hid hbs
  have HB1 := Lib.hid hb1
  have HI := Lib.hid (int_calls b c 5 (by omega) (by omega) w1 hcs)
  clear HN hbs hcs hb1
  go_wp2_with fail
  refine HI.out.mono ?_
  rintro e w2 ⟨x, rfl, hx0, hx1, hcs, hby⟩
  obtain ⟨m, rfl⟩ : ∃ m : Nat, x = m := ⟨x.toNat, by omega⟩
  have HB2 := Lib.hid (below_case HB1.out HBS.out hby)
  have HM : Hid (m < 5) := by show _ < _; omega
  have HC := Lib.hid (cellsv_calls b c m (by omega) w2 hcs)
  clear HI hcs hby hx0 hx1
  go_wp2_with fail
  refine HC.out.mono ?_
  rintro e w3 ⟨vr, r, rfl, hrl, hown, hcs, hby, hall⟩
  have HB3 := Lib.hid (below_case HB2.out HBS.out hby)
  have hr12 : r.length ≤ 12 := by have := HM.out; omega
  have HR12 := Lib.hid hr12
  have HALL := Lib.hid hall
  have HA := Lib.hid (AppendRow_calls (.slice none 0 0) vr [] r w3 (bytes_nil _) (by simp) (.of_owned hown (by omega)) (fun x hx => (hall.i64 x hx).2))
  clear HC hrl hown hcs hby hall hr12
  go_wp2_with fail
  refine HA.out.mono ?_
  intro e w4 ho
  obtain ⟨v4, rfl, ho4, hb4⟩ := rowOut_ok ho HR12.out HALL.out
  rw [List.nil_append] at ho4
  obtain ⟨hl1, hl2⟩ := encR_len HR12.out HALL.out.i64
  have hcut := rdR_cut HR12.out HALL.out.i64
  generalize encR r = E at ho4 hl1 hl2 hcut
  have hat := ho4.at_
  obtain ⟨va, vc, rfl, q1, q2, -, -⟩ := bytes_value hat
  have HB4 := Lib.hid (HB3.out.trans (hb4.mono HB3.out.size))
  have HAT := Lib.hid hat
  have HCUT := Lib.hid hcut
  generalize hL : E.length = L at q1 hl1 hl2
  have HL := Lib.hid hL
  have d1 : ((L : Int) == 0) = false := by simp; omega
  have d1' : ¬ L = 0 := by omega
  obtain ⟨j, hj⟩ : ∃ j, j = y % L := ⟨_, rfl⟩
  have hrem : (y : Int).tmod (L : Int) = (j : Int) := by rw [hj]; exact nat_rem y L
  have hrem' : (y : Int) % (L : Int) = (j : Int) := by rw [hj]; rfl
  have hjl : j < L := by rw [hj]; exact Nat.mod_lt _ (by omega)
  have hsl := slice_to_i va vc L j (by omega) q1 q2
  have HJ := Lib.hid hjl
  clear HA ho ho4 hb4 hat hcut hL hj
  go_wp2_with fail
  have hatj : BytesAt w4 (.slice va j vc) (E.take j) := HAT.out.to_ j (by rw [HL.out]; exact Nat.le_of_lt HJ.out)
  have hrow := Row_calls _ (E.take j) 0 w4 hatj (by rw [List.length_take, HL.out]; omega)
  have hout : readAt rdR [] (E.take j) 0 = ([], 0, 20) := by
    have h := readAt_in (rd := rdR) (z := ([] : List V)) (bs := E.take j) (p := 0) (Nat.zero_le _)
    rw [List.drop_zero, HCUT.out j (by rw [HL.out]; exact HJ.out)] at h
    exact h
  rw [hout] at hrow
  have HROW := Lib.hid hrow
  clear hatj hrow hout hsl hrem hrem' d1 d1' hjl
  refine HROW.out.mono ?_
  rintro e w5 ⟨v5, rfl, -, hnil, hb5⟩
  obtain rfl := hnil (by decide)
  have HB5 := Lib.hid (HB4.out.trans (hb5.mono HB4.out.size))
  have HU := Lib.hid (AppendUint_calls (.slice none 0 0) [] n HNN.out w5 (bytes_nil _) (by simp))
  have hu0 := Go.Lib.uvarint_pos n
  have hu10 := Go.Lib.uvarint_length64 HNN.out
  clear hnil hb5 HROW q1 q2 hl1 hl2
  go_wp2_with fail
  refine HU.out.mono ?_
  rintro e w6 ⟨v6, rfl, ho6, hb6⟩
  rw [List.nil_append] at ho6
  have hcut := fun k hk => rdU_cut0 n k HNN.out hk
  generalize uvarint n = U at ho6 hu0 hu10 hcut
  have hat := ho6.at_
  obtain ⟨ua, uc, rfl, q1, q2, -, -⟩ := bytes_value hat
  have HB6 := Lib.hid (HB5.out.trans (hb6.mono HB5.out.size))
  have HAT6 := Lib.hid hat
  have HCUT6 := Lib.hid hcut
  generalize hL : U.length = M at q1 hu0 hu10
  have HL6 := Lib.hid hL
  have d1 : ((M : Int) == 0) = false := by simp; omega
  have d1' : ¬ M = 0 := by omega
  obtain ⟨i, hi⟩ : ∃ i, i = y % M := ⟨_, rfl⟩
  have hrem : (y : Int).tmod (M : Int) = (i : Int) := by rw [hi]; exact nat_rem y M
  have hrem' : (y : Int) % (M : Int) = (i : Int) := by rw [hi]; rfl
  have hil : i < M := by rw [hi]; exact Nat.mod_lt _ (by omega)
  have hsl := slice_to_i ua uc M i (by omega) q1 q2
  have HJ6 := Lib.hid hil
  have HM10 := Lib.hid hu10
  clear HU ho6 hb6 hat hcut hL hi
  go_wp2_with fail
  have hati : BytesAt w6 (.slice ua i uc) (U.take i) := HAT6.out.to_ i (by rw [HL6.out]; exact Nat.le_of_lt HJ6.out)
  have hu := Uint_calls _ (U.take i) 0 w6 hati (by rw [List.length_take, HL6.out]; have := HM10.out; omega)
  have hout : readAt (rdU 0 0) 0 (U.take i) 0 = (0, 0, 20) := by
    have h := readAt_in (rd := rdU 0 0) (z := 0) (bs := U.take i) (p := 0) (Nat.zero_le _)
    rw [List.drop_zero, HCUT6.out i (by rw [HL6.out]; exact HJ6.out)] at h
    exact h
  rw [hout] at hu
  simp only [triple, mkU] at hu
  have HU := Lib.hid hu
  clear hati hu hout hsl hrem hrem' d1 d1' hil q1 q2 hu0 hu10
  refine HU.out.mono ?_
  rintro e w7 ⟨rfl, hb7⟩
  have HB7 := Lib.hid (HB6.out.trans (hb7.mono HB6.out.size))
  clear hb7 HU
  go_wp2_with fail
  refine (begun2_calls _).mono ?_
  rintro e w8 ⟨rfl, hb8⟩
  have HB8 := Lib.hid (HB7.out.trans (hb8.mono HB7.out.size))
  clear hb8
  go_wp2
  go_ret
  exact ⟨rfl, HB8.out⟩
set_option maxRecDepth 100000 in
theorem lifted (os : Os) (started : os.Started) (H : Type) (enc : TypeId × Value → H) :
    ReturnsInHanded {} Try.checked os 10 .any (Rows.codecCutsSpec.pre6 enc Try.prog Try.f10 Rows.codecCutsRow.domain false) (Rows.codecCutsSpec.post enc Try.prog Try.f10 false true false false) := by
  refine returnsInHanded_of_change (C := Try.checked) own started (by kernel_rfl) Try.func10
    (ChangeSpec.witness6 (enc := enc) (C := Try.checked) false ⟨#[], #[.slice none 0 0, .int .u64 0, .int .u8 0], []⟩ 8 (by kernel_rfl) (by kernel_rfl) (by kernel_rfl) (by kernel_rfl)) ?_
  intro W base args ds gs before hval0 hW hcnd hsizes
  have hval : ∀ (j : Nat) t v, Try.f10.params[j]? = some t → args[j]? = some v → Value.okWide Try.prog W .any base t v := hval0
  have hW' := hW
  obtain ⟨p, q, hA0, hV, rfl, hfz, hnd⟩ := hW
  have hA : DataW.TrodAll enc Try.prog W 0 (fun _ => true) true Try.f10.params.toList args.toList ds p := hA0
  rw [Try.params10] at hA hval
  obtain ⟨v0, vs0, d0, ds0, p0, q0, hargs, rfl, rfl, h0, r0⟩ := trodAll_cons hA
  obtain ⟨v1, vs1, d1, ds1, p1, q1, rfl, rfl, rfl, h1, r1⟩ := trodAll_cons r0
  obtain ⟨v2, vs2, d2, ds2, p2, q2, rfl, rfl, rfl, h2, r2⟩ := trodAll_cons r1
  obtain ⟨rfl, rfl, rfl⟩ := trodAll_nil r2
  obtain rfl : args = #[v0, v1, v2] := by cases args; simp_all
  obtain ⟨rfl, rfl⟩ := trodVars_none hV
  have lt0 : ∀ x ∈ p0, x.block < W.heap.size := by obtain ⟨m, hm⟩ := h0; exact DataW.trod_lt m _ _ _ hm
  obtain ⟨a0, len0, cap0, z0, rfl, w0⟩ := open_codes (hval 0 22 v0 rfl rfl) h0
  have lt1 : ∀ x ∈ p1, x.block < W.heap.size := by obtain ⟨m, hm⟩ := h1; exact DataW.trod_lt m _ _ _ hm
  obtain ⟨x1, rfl, b1⟩ := open_u64 (hval 1 34 v1 rfl rfl) h1
  have lt2 : ∀ x ∈ p2, x.block < W.heap.size := by obtain ⟨m, hm⟩ := h2; exact DataW.trod_lt m _ _ _ hm
  obtain ⟨x2, rfl, b2⟩ := open_u8 (hval 2 5 v2 rfl rfl) h2
  clear hA0 hval0
  refine (walk a0 len0 cap0 z0 x1 x2 W w0 b1 b2).mono fun e W' ⟨he, bel⟩ => ?_
  subst he
  exact ⟨_, rfl, _, _, _, [], _, [], hW', trodAll_mk1 (shut_bool Try.underlying4 _), (trodAll_cons_mk (Below.trod laidOut (by kernel_rfl) (of_decide_eq_true (by kernel_rfl)) h0 bel lt0) (trodAll_cons_mk (Below.trod laidOut (by kernel_rfl) (of_decide_eq_true (by kernel_rfl)) h1 bel lt1) (trodAll_cons_mk (Below.trod laidOut (by kernel_rfl) (of_decide_eq_true (by kernel_rfl)) h2 bel lt2) trodAll_mk0))), rfl, bel.frame _, fun h => by cases h⟩

theorem over : Rows.codecCutsRow.holds Try.pinned (OpenSpec.ofChange Rows.codecCutsSpec) :=
  OpenClaim.holds_of_wide 10 Try.f10 rfl rfl rfl rfl rfl rfl rfl ⟨rfl, rfl, rfl, rfl, rfl⟩ rfl rfl rfl rfl rfl (by kernel_rfl) Try.func10 (by kernel_rfl)
    (of_decide_eq_true (by kernel_rfl)) (by unfold Func.isWrapper; first | (rw [if_pos (by decide +kernel)]; kernel_rfl) | (rw [if_neg (by decide +kernel)]; exact ⟨rfl, rfl⟩))
    (fun os started H enc _ => lifted os started H enc)
theorem proved : Rows.CodecCutsSaid := over
end Cuts
end Go.Proofs.Ytekmllanhppiaaa
