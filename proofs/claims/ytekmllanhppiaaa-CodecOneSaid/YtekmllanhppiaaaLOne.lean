/- The law CodecOne returns true for all codes, bytes, places and changes, without conditions. -/
import Derived.Test.YtekmllanhppiaaaYb
import Derived.Test.YtekmllanhppiaaaYa
import Derived.Test.YtekmllanhppiaaaCk
import Derived.Test.YtekmllanhppiaaaCo
import Derived.Deep.Cut
import Derived.Deep.CutRange
import Derived.Deep.DeepCutAuto
set_option linter.unusedSimpArgs false
set_option linter.unusedVariables false
namespace Go.Proofs.Ytekmllanhppiaaa
open Go.ChangeShapes Go.WideShapes Go.ChangeAt Go.RowKit Go.Joins

namespace One
open Go.Lib (byteCells uvarint zigzag)
set_option maxHeartbeats 4000000 in
set_option maxRecDepth 100000 in
theorem walk (a : Option Addr) (len cap : Nat) (zs : List Int) (a1 : Option Addr) (len1 cap1 : Nat) (zs1 : List Int) (y x : Nat) (w : World) (hr : IsRow .u8 w a len cap zs) (hr1 : IsRow .u8 w a1 len1 cap1 zs1) (hy : y < 256) (hx : x < 256) :
    Calls Try.prog 9 #[.slice a len cap, .slice a1 len1 cap1, .int .u8 y, .int .u8 x] w fun e w' => e = .returned (.bool true) ∧ Below w.heap.size w w' := by
  have HN := Lib.hid (new_calls a len cap zs w hr)
  obtain ⟨bs0, hb0⟩ := bytes_of_row hr1
  have HD := Lib.hid hb0
  have HX := Lib.hid hx
  clear hr hr1 hb0 hx
  go_enter Try.func9, Try.ntmps9
  go_wp2_with fail
  refine HN.out.mono ?_
  rintro e w1 ⟨b, c, rfl, hbs, hcs, hb1⟩
  have HBS := Lib.hid hbs
  have HB1 := Lib.hid hb1
  have HI := Lib.hid (int_calls b c 5 (by omega) (by omega) w1 hcs)
  clear HN hbs hcs hb1
  go_wp2_with fail
  refine HI.out.mono ?_
  rintro e w2 ⟨x0, rfl, hx0, hx1, hcs, hby⟩
  obtain ⟨m, rfl⟩ : ∃ m : Nat, x0 = m := ⟨x0.toNat, by omega⟩
  have HB2 := Lib.hid (below_case HB1.out HBS.out hby)
  have HM : Hid (m < 5) := by show _ < _; omega
  have HC := Lib.hid (cellsv_calls b c m (by omega) w2 hcs)
  clear HI hcs hby hx0 hx1
  go_wp2_with fail
  refine HC.out.mono ?_
  rintro e w3 ⟨vr, r, rfl, hrl, hown, hcs, hby, hall⟩
  have HB3 := Lib.hid (below_case HB2.out HBS.out hby)
  have hr12 : r.length ≤ 12 := by have := HM.out; omega
  have HR12 := Lib.hid hr12
  have HALL := Lib.hid hall
  have HCS := Lib.hid hcs
  have HA := Lib.hid (refAppendRow_calls (.slice none 0 0) vr [] r w3 (bytes_nil _) (by simp) (.of_owned hown (by omega)) (fun x hx => (hall.i64 x hx).2))
  clear HC hrl hown hcs hby hall hr12
  go_wp2_with fail
  refine HA.out.mono ?_
  intro e w4 ho
  obtain ⟨v4, rfl, ho4, hb4⟩ := rowOut_ok ho HR12.out HALL.out
  rw [List.nil_append] at ho4
  obtain ⟨hl1, hl2⟩ := encR_len HR12.out HALL.out.i64
  generalize encR r = E at ho4 hl1 hl2
  have HO4 := Lib.hid ho4
  have hbl := HCS.out.lt
  have HB4 := Lib.hid (HB3.out.trans (hb4.mono HB3.out.size))
  have HBC := Lib.hid (bool2_calls b c w4 (HCS.out.grown ⟨hb4.os, hb4.tape, hb4.output, hb4.size, fun k hk _ => hb4.block k hk⟩))
  have HL2 := Lib.hid hl2
  clear HA ho ho4 hb4 hl1 hl2
  go_wp2_with fail
  refine HBC.out.mono ?_
  rintro e w5 ⟨q, rfl, hcs5, hby5⟩
  have HO5 : Hid (Own w.heap.size w5 v4 E) := Own.mono (HO4.out.kept hby5 (own_far HO4.out hbl)) HB3.out.size
  have HB5 := Lib.hid (below_case HB4.out HBS.out hby5)
  have HD5 := Lib.hid (HD.out.later HB5.out)
  clear hcs5 hby5 hbl HBC HO4
  go_upto_if 27 with fail
  go_cut [10] from 16 to 89 (fun vb wx => ∃ bs, bs.length ≤ 1000 ∧ Own w.heap.size wx vb bs ∧ Below w.heap.size w wx)
  case first =>
    cases q
    · go_wp2_with fail
      go_meet
      case rel => exact ⟨E, HL2.out, HO5.out, HB5.out⟩
    · go_wp2_with fail
      refine (part_calls _ bs0 w5 HD5.out).mono ?_
      rintro e w6 ⟨v6, rfl, hat6, rfl⟩
      have HAT6 := Lib.hid hat6
      have hl6 : (bs0.take 200).length ≤ 200 := by simp; omega
      have HL6 := Lib.hid hl6
      clear hat6 hl6
      go_wp2_with (at_builtin; go_must (refine wpList_append_bytes rfl _ _ rfl w.heap.size _ [] rfl (Own.nil _ _) _ (bs0.take 200) rfl HAT6.out ?c1 ?c2 ?_))
      case c1 => have := HL6.out; simp only [List.length_nil]; omega
      case c2 => exact HB5.out.size
      intro v7 w7 ho7 hb7
      have HO7 := Lib.hid ho7
      have HB7 := Lib.hid (HB5.out.trans hb7)
      clear ho7 hb7
      go_wp2_with fail
      go_meet
      case rel => exact ⟨bs0.take 200, by have := HL6.out; omega, HO7.out, HB7.out⟩
  case rest =>
    obtain ⟨bs, hlb, hob, hbb⟩ := hcut
    have HLB := Lib.hid hlb
    have HOB := Lib.hid hob
    have HBB := Lib.hid hbb
    clear HO5 HB5 HD5 HL2 HB4 HB3 HB2 HB1 hlb hbb
    obtain ⟨va, vc, rfl, -, -, -, -⟩ := bytes_value hob.at_
    clear hob
    have HF := Lib.hid (⟨hy, HX.out⟩ : y < 256 ∧ x < 256)
    generalize hL : bs.length = L
    have HL := Lib.hid hL
    clear hL hy
    go_upto_if 33 with fail
    go_cut [10] from 16 to 89 (fun vb wx => ∃ bs, bs.length ≤ 1000 ∧ Own w.heap.size wx vb bs ∧ Below w.heap.size w wx)
    case first =>
      by_cases hbe : L = 0
      · have d0 : decide ((0 : Int) < (L : Int)) = false := by simp; omega
        have d0' : decide (0 < L) = false := by simp; omega
        go_wp2_with fail
        go_meet
        case rel => exact ⟨bs, HLB.out, by have := HOB.out; rw [HL.out] at this; exact this, HBB.out⟩
      · have d0 : decide ((0 : Int) < (L : Int)) = true := by simp; omega
        have d0' : decide (0 < L) = true := by simp; omega
        obtain ⟨g, j, z, bv, rfl, hbg, hgl, hfz, hjl, hrem, hrem', hk, hzx, bs', hlen, hput⟩ := store_facts HOB.out L HL.out hbe y x
        have HG := Lib.hid hbg
        have HPUT := Lib.hid hput
        have HLEN := Lib.hid hlen
        have HLL : Hid (L ≤ 1000) := by show _ ≤ _; have := HLB.out; rw [HL.out] at this; exact this
        have e1 : ((L : Int) == 0) = false := by simp; omega
        have hy' : y < 256 := HF.out.1
        have i1 : (0 : Int) ≤ (j : Int) := by omega
        have i2 : (j : Int) < (L : Int) := by omega
        clear hbg hput hlen
        go_wp2_with fail
        go_meet
        case rel => exact ⟨bs', by rw [HLEN.out]; exact HLL.out, HPUT.out, HBB.out.setCell HG.out _⟩
    case rest =>
      obtain ⟨bs2, hlb2, hob2, hbb2⟩ := hcut
      have HLB2 := Lib.hid hlb2
      have HBB2 := Lib.hid hbb2
      have hat := hob2.at_
      obtain ⟨ua, uc, rfl, q1, q2, -, -⟩ := bytes_value hat
      have HAT := Lib.hid hat
      have hrow := Row_calls _ bs2 0 _ hat (by omega)
      have hout := readAt_in (rd := rdR) (z := ([] : List V)) (bs := bs2) (p := 0) (Nat.zero_le _)
      rw [List.drop_zero] at hout
      have ho2 : readAt rdR [] bs2 0 = outOf [] 0 (rdR bs2) := hout
      rw [ho2] at hrow
      generalize hM : bs2.length = M at q1 hrow
      have HM2 := Lib.hid hM
      clear hout ho2 hat hob2 hlb2 hbb2 hM HOB HBB HLB HL HF
      rcases hc : rdR bs2 with ce | ⟨r2, k⟩
      · have hce := rdR_err hc
        rw [hc] at hrow
        simp only [outOf] at hrow
        have HROW := Lib.hid hrow
        clear hrow hc q1 q2
        go_wp2_with fail
        refine HROW.out.mono ?_
        rintro e w8 ⟨v8, rfl, -, hnil, hb8⟩
        have hv8 : v8 = .slice none 0 0 := hnil (by intro h; simp at h; rw [h] at hce; simp at hce)
        subst hv8
        have HB8 := Lib.hid (HBB2.out.trans (hb8.mono HBB2.out.size))
        clear hnil hb8 HROW
        go_wp2_with fail
        refine (begun2_calls _).mono ?_
        rintro e w9 ⟨rfl, hb9⟩
        have HB9 := Lib.hid (HB8.out.trans (hb9.mono HB8.out.size))
        clear hb9
        go_wp2
        go_ret
        exact ⟨by simp, HB9.out⟩
      · obtain ⟨h12, henc, hval, hk⟩ := rdR_writes hc
        rw [hc] at hrow
        simp only [outOf, Nat.zero_add] at hrow
        have HROW := Lib.hid hrow
        have H12 := Lib.hid h12
        have HENC := Lib.hid henc
        have HVAL := Lib.hid hval
        have hkM : k ≤ M := by have := HM2.out; omega
        have HK := Lib.hid hk
        have hsl := slice_to_i ua uc M k hkM q1 q2
        have HSL := Lib.hid hsl
        clear hrow hc q1 q2 h12 henc hval hk hsl
        go_wp2_with fail
        refine HROW.out.mono ?_
        rintro e w8 ⟨v8, rfl, hra, -, hb8⟩
        have HB8 := Lib.hid (HBB2.out.trans (hb8.mono HBB2.out.size))
        have HAT8 := Lib.hid (HAT.out.later hb8)
        have HA := Lib.hid (AppendRow_calls (.slice none 0 0) v8 [] r2 w8 (bytes_nil _) (by simp) hra (fun x hx => (HVAL.out x hx).2))
        clear hra hb8 HROW
        go_wp2_with fail
        refine HA.out.mono ?_
        intro e w9 ho
        obtain ⟨v9, rfl, ho9, hb9⟩ := rowOut_ok ho H12.out (fun x hx => ⟨(HVAL.out x hx).1, (HVAL.out x hx).2⟩)
        rw [List.nil_append, HENC.out] at ho9
        have HO9 := Lib.hid ho9
        have HB9 := Lib.hid (HB8.out.trans (hb9.mono HB8.out.size))
        have HAT9 := Lib.hid (HAT8.out.later hb9)
        clear HA ho ho9 hb9
        go_wp2_with fail
        refine (begun2_calls _).mono ?_
        rintro e w10 ⟨rfl, hb10⟩
        have HB10 := Lib.hid (HB9.out.trans (hb10.mono HB9.out.size))
        have HO10 := Lib.hid (HO9.out.later hb10)
        have HAT10 := Lib.hid (HAT9.out.later hb10)
        have hsl := HSL.out
        have d1 : decide ((0 : Int) ≤ (k : Int)) = true := by simp
        have d2 : decide ((k : Int) ≤ (M : Int)) = true := by simp; omega
        have d3 : decide (k ≤ M) = true := by simp; omega
        clear hb10
        go_wp2_with fail
        refine (same_bytes _ _ (bs2.take k) (bs2.take k) _ HO10.out.at_ (HAT10.out.to_ k HK.out)).mono ?_
        rintro e w11 ⟨rfl, rfl⟩
        go_wp2
        go_ret
        exact ⟨by simp, HB10.out⟩
set_option maxRecDepth 100000 in
theorem lifted (os : Os) (started : os.Started) (H : Type) (enc : TypeId × Value → H) :
    ReturnsInHanded {} Try.checked os 9 .any (Rows.codecOneSpec.pre6 enc Try.prog Try.f9 Rows.codecOneRow.domain false) (Rows.codecOneSpec.post enc Try.prog Try.f9 false true false false) := by
  refine returnsInHanded_of_change (C := Try.checked) own started (by kernel_rfl) Try.func9
    (ChangeSpec.witness6 (enc := enc) (C := Try.checked) false ⟨#[], #[.slice none 0 0, .slice none 0 0, .int .u8 0, .int .u8 0], []⟩ 8 (by kernel_rfl) (by kernel_rfl) (by kernel_rfl) (by kernel_rfl)) ?_
  intro W base args ds gs before hval0 hW hcnd hsizes
  have hval : ∀ (j : Nat) t v, Try.f9.params[j]? = some t → args[j]? = some v → Value.okWide Try.prog W .any base t v := hval0
  have hW' := hW
  obtain ⟨p, q, hA0, hV, rfl, hfz, hnd⟩ := hW
  have hA : DataW.TrodAll enc Try.prog W 0 (fun _ => true) true Try.f9.params.toList args.toList ds p := hA0
  rw [Try.params9] at hA hval
  obtain ⟨v0, vs0, d0, ds0, p0, q0, hargs, rfl, rfl, h0, r0⟩ := trodAll_cons hA
  obtain ⟨v1, vs1, d1, ds1, p1, q1, rfl, rfl, rfl, h1, r1⟩ := trodAll_cons r0
  obtain ⟨v2, vs2, d2, ds2, p2, q2, rfl, rfl, rfl, h2, r2⟩ := trodAll_cons r1
  obtain ⟨v3, vs3, d3, ds3, p3, q3, rfl, rfl, rfl, h3, r3⟩ := trodAll_cons r2
  obtain ⟨rfl, rfl, rfl⟩ := trodAll_nil r3
  obtain rfl : args = #[v0, v1, v2, v3] := by cases args; simp_all
  obtain ⟨rfl, rfl⟩ := trodVars_none hV
  have lt0 : ∀ x ∈ p0, x.block < W.heap.size := by obtain ⟨m, hm⟩ := h0; exact DataW.trod_lt m _ _ _ hm
  obtain ⟨a0, len0, cap0, z0, rfl, w0⟩ := open_codes (hval 0 22 v0 rfl rfl) h0
  have lt1 : ∀ x ∈ p1, x.block < W.heap.size := by obtain ⟨m, hm⟩ := h1; exact DataW.trod_lt m _ _ _ hm
  obtain ⟨a1, len1, cap1, z1, rfl, w1⟩ := open_codes (hval 1 22 v1 rfl rfl) h1
  have lt2 : ∀ x ∈ p2, x.block < W.heap.size := by obtain ⟨m, hm⟩ := h2; exact DataW.trod_lt m _ _ _ hm
  obtain ⟨x2, rfl, b2⟩ := open_u8 (hval 2 5 v2 rfl rfl) h2
  have lt3 : ∀ x ∈ p3, x.block < W.heap.size := by obtain ⟨m, hm⟩ := h3; exact DataW.trod_lt m _ _ _ hm
  obtain ⟨x3, rfl, b3⟩ := open_u8 (hval 3 5 v3 rfl rfl) h3
  clear hA0 hval0
  refine (walk a0 len0 cap0 z0 a1 len1 cap1 z1 x2 x3 W w0 w1 b2 b3).mono fun e W' ⟨he, bel⟩ => ?_
  subst he
  exact ⟨_, rfl, _, _, _, [], _, [], hW', trodAll_mk1 (shut_bool Try.underlying4 _), (trodAll_cons_mk (Below.trod laidOut (by kernel_rfl) (of_decide_eq_true (by kernel_rfl)) h0 bel lt0) (trodAll_cons_mk (Below.trod laidOut (by kernel_rfl) (of_decide_eq_true (by kernel_rfl)) h1 bel lt1) (trodAll_cons_mk (Below.trod laidOut (by kernel_rfl) (of_decide_eq_true (by kernel_rfl)) h2 bel lt2) (trodAll_cons_mk (Below.trod laidOut (by kernel_rfl) (of_decide_eq_true (by kernel_rfl)) h3 bel lt3) trodAll_mk0)))), rfl, bel.frame _, fun h => by cases h⟩

theorem over : Rows.codecOneRow.holds Try.pinned (OpenSpec.ofChange Rows.codecOneSpec) :=
  OpenClaim.holds_of_wide 9 Try.f9 rfl rfl rfl rfl rfl rfl rfl ⟨rfl, rfl, rfl, rfl, rfl⟩ rfl rfl rfl rfl rfl (by kernel_rfl) Try.func9 (by kernel_rfl)
    (of_decide_eq_true (by kernel_rfl)) (by unfold Func.isWrapper; first | (rw [if_pos (by decide +kernel)]; kernel_rfl) | (rw [if_neg (by decide +kernel)]; exact ⟨rfl, rfl⟩))
    (fun os started H enc _ => lifted os started H enc)
theorem proved : Rows.CodecOneSaid := over
end One
end Go.Proofs.Ytekmllanhppiaaa
