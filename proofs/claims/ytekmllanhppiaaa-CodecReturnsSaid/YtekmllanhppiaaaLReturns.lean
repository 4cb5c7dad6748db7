/- The law CodecReturns returns true for all codes, bytes and numbers, without conditions. -/
import Derived.Test.YtekmllanhppiaaaCu
set_option linter.unusedSimpArgs false
set_option linter.unusedVariables false
namespace Go.Proofs.Ytekmllanhppiaaa
open Go.ChangeShapes Go.WideShapes Go.ChangeAt Go.RowKit Go.Joins

namespace Returns
open Go.Lib (byteCells uvarint zigzag)
theorem readAt_drop {α : Type} {rd : List UInt8 → Except Int (α × Nat)} {z : α} {A X : List UInt8} {x : α} {k : Nat} (h : rd X = .ok (x, k)) : readAt rd z (A ++ X) (A.length : Int) = (x, ((A.length + k : Nat) : Int), 0) := by
  rw [readAt_in (by rw [List.length_append]; omega), List.drop_left, h]; rfl
theorem math (head tail : List UInt8) (n : Nat) (hn : n < 18446744073709551616) (m : Int) (hm : isI64 m) (s : ByteArray) (hs : s.size ≤ 64) (r : List V) (h12 : r.length ≤ 12) (hv : AllV r) (B E : List UInt8)
    (hE : E = head ++ uvarint n ++ uvarint (zigzag m) ++ encT s ++ encR r) (hB : B = E ++ tail) :
    ∃ p1 p2 p3 : Nat, readAt (rdU 0 0) 0 B (head.length : Int) = (n, (p1 : Int), 0) ∧ readAt rdI 0 B (p1 : Int) = (m, (p2 : Int), 0) ∧ textAt 64 B (p2 : Int) = (s, (p3 : Int), 0) ∧ readAt rdR [] B (p3 : Int) = (r, (E.length : Int), 0) := by
  have e1 : B = head ++ (uvarint n ++ (uvarint (zigzag m) ++ encT s ++ encR r ++ tail)) := by rw [hB, hE]; simp only [List.append_assoc]
  have e2 : B = (head ++ uvarint n) ++ (uvarint (zigzag m) ++ (encT s ++ encR r ++ tail)) := by rw [hB, hE]; simp only [List.append_assoc]
  have e3 : B = (head ++ uvarint n ++ uvarint (zigzag m)) ++ (encT s ++ (encR r ++ tail)) := by rw [hB, hE]; simp only [List.append_assoc]
  have e4 : B = (head ++ uvarint n ++ uvarint (zigzag m) ++ encT s) ++ (encR r ++ tail) := by rw [hB, hE]; simp only [List.append_assoc]
  refine ⟨(head ++ uvarint n).length, (head ++ uvarint n ++ uvarint (zigzag m)).length, (head ++ uvarint n ++ uvarint (zigzag m) ++ encT s).length, ?_, ?_, ?_, ?_⟩
  · rw [e1, readAt_drop (rdU_uvarint n hn _), List.length_append]
  · have h := rdI_ok (rdU_uvarint (zigzag m) (Go.Lib.zigzag_lt hm.1 hm.2) (encT s ++ encR r ++ tail))
    rw [unzig_zigzag] at h
    rw [e2, readAt_drop h, ← List.length_append]
  · unfold textAt
    rw [if_neg (by omega)]
    have h := rdT_back 64 s hs (by omega) (encR r ++ tail)
    have e : Int.toNat 64 = 64 := rfl
    rw [e, e3, readAt_drop h, ← List.length_append]
  · rw [e4, readAt_drop (rdR_back h12 hv.i64 tail), ← List.length_append, hE]
set_option maxHeartbeats 4000000 in
set_option maxRecDepth 100000 in
theorem walk (a : Option Addr) (len cap : Nat) (zs : List Int) (a' : Option Addr) (len' cap' : Nat) (zs' : List Int) (a'' : Option Addr) (len'' cap'' : Nat) (zs'' : List Int) (n : Nat) (m : Int) (w : World)
    (hr : IsRow .u8 w a len cap zs) (hr' : IsRow .u8 w a' len' cap' zs') (hr'' : IsRow .u8 w a'' len'' cap'' zs'') (hn : n < 18446744073709551616) (hm : isI64 m) :
    Calls Try.prog 8 #[.slice a len cap, .slice a' len' cap', .slice a'' len'' cap'', .int .u64 n, .int .i64 m] w fun e w' => e = .returned (.bool true) ∧ Below w.heap.size w w' := by
  have HN := Lib.hid (new_calls a len cap zs w hr)
  have HNN := Lib.hid hn
  have HMM := Lib.hid hm
  obtain ⟨bsh, hbh⟩ := bytes_of_row hr'
  obtain ⟨bst, hbt⟩ := bytes_of_row hr''
  have HBH := Lib.hid hbh
  have HBT := Lib.hid hbt
  clear hr hr' hr'' hn hm hbh hbt
  go_enter Try.func8, Try.ntmps8
  go_wp2_with fail
  refine HN.out.mono ?_
  rintro e w1 ⟨b, c, rfl, hbs, hcs, hb1⟩
  have HBS := Lib.hid hbs
  have HB1 := Lib.hid hb1
  have HI := Lib.hid (int_calls b c 13 (by omega) (by omega) w1 hcs)
  clear HN hbs hcs hb1
  go_wp2_with fail
  refine HI.out.mono ?_
  rintro e w2 ⟨x, rfl, hx0, hx1, hcs, hby⟩
  obtain ⟨k, rfl⟩ : ∃ k : Nat, x = k := ⟨x.toNat, by omega⟩
  have HB2 := Lib.hid (below_case HB1.out HBS.out hby)
  have HK : Hid (k < 13) := by show _ < _; omega
  have HLT := Lib.hid hcs.lt
  have HC := Lib.hid (cellsv_calls b c k (by omega) w2 hcs)
  clear HI hcs hby hx0 hx1
  go_wp2_with fail
  refine HC.out.mono ?_
  rintro e w3 ⟨vr, r, rfl, hrl, hown, hcs, hby, hall⟩
  have HB3 := Lib.hid (below_case HB2.out HBS.out hby)
  have hr12 : r.length ≤ 12 := by have := HK.out; omega
  have HR12 := Lib.hid hr12
  have HALL := Lib.hid hall
  have HOWN := Lib.hid hown
  have HT := Lib.hid (caseText_calls b c w3 hcs)
  clear HC hrl hown hcs hby hall hr12
  go_wp2_with fail
  refine HT.out.mono ?_
  rintro e w4 ⟨s, rfl, hs, hcs, hby⟩
  have HB4 := Lib.hid (below_case HB3.out HBS.out hby)
  have HS := Lib.hid hs
  have hrow4 : RowAt w4 vr r := .of_owned (HOWN.out.kept hby (own_far HOWN.out HLT.out)) (by have := HR12.out; omega)
  have HROW4 := Lib.hid hrow4
  have HP1 := Lib.hid (part_calls _ bsh w4 (HBH.out.later HB4.out))
  clear HT hs hcs hby hrow4 HOWN HLT
  go_wp2_with fail
  refine HP1.out.mono ?_
  rintro e w5 ⟨vh, rfl, hath, rfl⟩
  have HP2 := Lib.hid (part_calls _ bst w4 (HBT.out.later HB4.out))
  have hl : (bsh.take 200).length ≤ 200 := by simp; omega
  generalize bsh.take 200 = head at hath hl
  obtain ⟨ha, hc, rfl, q1, q2, -, -⟩ := bytes_value hath
  have HATH := Lib.hid hath
  have HLH := Lib.hid hl
  clear HP1 hath hl q1 q2
  go_wp2_with fail
  refine HP2.out.mono ?_
  rintro e w5 ⟨vt, rfl, hatt, rfl⟩
  have hl : (bst.take 200).length ≤ 200 := by simp; omega
  generalize bst.take 200 = tail at hatt hl
  have HATT := Lib.hid hatt
  have HLT := Lib.hid hl
  have HA1 := Lib.hid (AppendUint_calls _ head n HNN.out w4 HATH.out (by have := HLH.out; omega))
  obtain ⟨H, hH⟩ : ∃ H, H = head.length := ⟨_, rfl⟩
  rw [← hH] at HA1 ⊢
  have HH := Lib.hid hH
  clear HP2 hatt hl hH
  go_wp2_with fail
  refine HA1.out.mono ?_
  rintro e w5 ⟨v5, rfl, ho5, hb5⟩
  have HU10 := Lib.hid (Go.Lib.uvarint_length64 HNN.out)
  have HZ10 := Lib.hid (Go.Lib.uvarint_length64 (Go.Lib.zigzag_lt HMM.out.1 HMM.out.2))
  have HB5 := Lib.hid (HB4.out.trans (hb5.mono HB4.out.size))
  have HB45 := Lib.hid hb5
  have HA2 := Lib.hid (AppendInt_calls v5 (head ++ uvarint n) m HMM.out w5 ho5.at_ (by have := HLH.out; have := HU10.out; rw [List.length_append]; omega))
  clear HA1 ho5 hb5
  go_wp2_with fail
  refine HA2.out.mono ?_
  rintro e w6 ⟨v6, rfl, ho6, hb6⟩
  have HB6 := Lib.hid (HB5.out.trans (hb6.mono HB5.out.size))
  have HB46 := Lib.hid (HB45.out.trans (hb6.mono HB45.out.size))
  have HA3 := Lib.hid (AppendText_calls v6 (head ++ uvarint n ++ uvarint (zigzag m)) s w6 ho6.at_ (by have := HLH.out; have := HU10.out; have := HZ10.out; have := HS.out; simp only [List.length_append]; omega))
  clear HA2 ho6 hb6
  go_wp2_with fail
  refine HA3.out.mono ?_
  rintro e w7 ⟨v7, rfl, ho7, hb7⟩
  have HB7 := Lib.hid (HB6.out.trans (hb7.mono HB6.out.size))
  have HB47 := Lib.hid (HB46.out.trans (hb7.mono HB46.out.size))
  have hlen7 : (head ++ uvarint n ++ uvarint (zigzag m) ++ encT s).length ≤ 400 := by
    have := HLH.out; have := HU10.out; have := HZ10.out; have := HS.out
    have h := Go.Lib.uvarint_length64 (x := s.size) (by omega)
    unfold encT
    simp only [List.length_append, text_len]; omega
  have HL7 := Lib.hid hlen7
  have HA4 := Lib.hid (AppendRow_calls v7 vr (head ++ uvarint n ++ uvarint (zigzag m) ++ encT s) r w7 ho7.at_ (by omega) (HROW4.out.later HB47.out) (fun x hx => (HALL.out.i64 x hx).2))
  clear HA3 ho7 hb7 hlen7
  go_wp2_with fail
  refine HA4.out.mono ?_
  intro e w8 ho
  obtain ⟨v8, rfl, ho8, hb8⟩ := rowOut_ok ho HR12.out HALL.out
  obtain ⟨E, hE⟩ : ∃ E, E = head ++ uvarint n ++ uvarint (zigzag m) ++ encT s ++ encR r := ⟨_, rfl⟩
  rw [← hE] at ho8
  have hE2 : E.length ≤ 1400 := by
    obtain ⟨h1, h2⟩ := encR_len HR12.out HALL.out.i64
    rw [hE, List.length_append]; have := HL7.out; omega
  have HB8 := Lib.hid (HB7.out.trans (hb8.mono HB7.out.size))
  have HB48 := Lib.hid (HB47.out.trans (hb8.mono HB47.out.size))
  obtain ⟨ea, ec, rfl, q1, q2, -, -⟩ := bytes_value ho8.at_
  have HO8 := Lib.hid ho8
  have HB78 := Lib.hid hb8.size
  have HE := Lib.hid hE
  have HE2 := Lib.hid hE2
  have hlim : E.length + tail.length ≤ 140737488355328 := by have := HLT.out; omega
  have HLIM := Lib.hid hlim
  generalize hEL : E.length = L at q1 ⊢
  have HEL := Lib.hid hEL
  clear HA4 ho ho8 hb8 hE hE2 hlim q1 q2 hEL
  go_wp2_with (at_builtin; go_must (refine wpList_append_bytes rfl _ _ rfl w7.heap.size _ E rfl (by rw [← HEL.out]; exact HO8.out) vt tail rfl (HATT.out.later HB48.out) HLIM.out ?c1 ?_))
  case c1 => exact HB78.out
  intro v9 w9 ho9 hb9
  have hs47 := HB47.out.size
  have HB9 := Lib.hid (HB8.out.trans (hb9.mono HB7.out.size))
  have HB49 := Lib.hid (HB48.out.trans (hb9.mono HB47.out.size))
  obtain ⟨B, hB⟩ : ∃ B, B = E ++ tail := ⟨_, rfl⟩
  have hat9 : BytesAt w9 v9 B := by rw [hB]; exact ho9.at_
  have hB2 : B.length ≤ 1600 := by rw [hB, List.length_append]; have := HE2.out; have := HLT.out; omega
  obtain ⟨p1, p2, p3, m1, m2, m3, m4⟩ := math head tail n HNN.out m HMM.out s HS.out r HR12.out HALL.out B E HE.out hB
  rw [← HH.out] at m1
  rw [HEL.out] at m4
  have HAT9 := Lib.hid hat9
  have HB2' : Hid (B.length ≤ 1099511627776) := by show _ ≤ _; omega
  have hu := Uint_calls v9 B (H : Int) w9 hat9 HB2'.out
  rw [m1] at hu
  simp only [triple, mkU] at hu
  have HU := Lib.hid hu
  have M2 := Lib.hid m2
  have M3 := Lib.hid m3
  have M4 := Lib.hid m4
  clear ho9 hb9 hs47 hB hat9 hB2 m1 m2 m3 m4 hu HO8 HLIM
  go_wp2_with fail
  refine HU.out.mono ?_
  rintro e w10 ⟨rfl, hb⟩
  have HB10 := Lib.hid (HB9.out.trans (hb.mono HB9.out.size))
  have HB410 := Lib.hid (HB49.out.trans (hb.mono HB49.out.size))
  have HAT10 := Lib.hid (HAT9.out.later hb)
  have hu := Int_calls v9 B (p1 : Int) w10 HAT10.out HB2'.out
  rw [M2.out] at hu
  simp only [triple, mkI] at hu
  have HV := Lib.hid hu
  clear hb hu HU
  go_wp2_with fail
  refine HV.out.mono ?_
  rintro e w11 ⟨rfl, hb⟩
  have HB11 := Lib.hid (HB10.out.trans (hb.mono HB10.out.size))
  have HB411 := Lib.hid (HB410.out.trans (hb.mono HB410.out.size))
  have HAT11 := Lib.hid (HAT10.out.later hb)
  have hu := Text_calls v9 B (p2 : Int) 64 (by omega) w11 HAT11.out HB2'.out
  rw [M3.out] at hu
  simp only [triple, mkT] at hu
  have HX := Lib.hid hu
  clear hb hu HV
  go_wp2_with fail
  refine HX.out.mono ?_
  rintro e w12 ⟨rfl, hb⟩
  have HB12 := Lib.hid (HB11.out.trans (hb.mono HB11.out.size))
  have HB412 := Lib.hid (HB411.out.trans (hb.mono HB411.out.size))
  have hu := Row_calls v9 B (p3 : Int) w12 (HAT11.out.later hb) HB2'.out
  rw [M4.out] at hu
  have HY := Lib.hid hu
  clear hb hu HX
  go_wp2_with fail
  refine HY.out.mono ?_
  rintro e w13 ⟨v13, rfl, hrow, -, hb⟩
  have HB13 := Lib.hid (HB12.out.trans (hb.mono HB12.out.size))
  have HROW := Lib.hid hrow
  have HROW13 := Lib.hid (HROW4.out.later (HB412.out.trans (hb.mono HB412.out.size)))
  clear hb hrow HY
  go_wp2_with fail
  refine (begun2_calls _).mono ?_
  rintro e w14 ⟨rfl, hb⟩
  have HB14 := Lib.hid (HB13.out.trans (hb.mono HB13.out.size))
  have hcmp := refCompareRows_calls v13 vr r r w14 (HROW.out.later hb) (HROW13.out.later hb)
  rw [goodR.self] at hcmp
  have HCMP := Lib.hid hcmp
  clear hb hcmp
  go_wp2_with fail
  refine HCMP.out.mono ?_
  rintro e w15 ⟨rfl, hg⟩
  have HB15 := Lib.hid (HB14.out.trans (hg.below.mono HB14.out.size))
  clear hg
  go_wp2
  go_ret
  exact ⟨by simp, HB15.out⟩
set_option maxRecDepth 100000 in
theorem lifted (os : Os) (started : os.Started) (H : Type) (enc : TypeId × Value → H) :
    ReturnsInHanded {} Try.checked os 8 .any (Rows.codecReturnsSpec.pre6 enc Try.prog Try.f8 Rows.codecReturnsRow.domain false) (Rows.codecReturnsSpec.post enc Try.prog Try.f8 false true false false) := by
  refine returnsInHanded_of_change (C := Try.checked) own started (by kernel_rfl) Try.func8
    (ChangeSpec.witness6 (enc := enc) (C := Try.checked) false ⟨#[], #[.slice none 0 0, .slice none 0 0, .slice none 0 0, .int .u64 0, .int .i64 0], []⟩ 8 (by kernel_rfl) (by kernel_rfl) (by kernel_rfl) (by kernel_rfl)) ?_
  intro W base args ds gs before hval0 hW hcnd hsizes
  have hval : ∀ (j : Nat) t v, Try.f8.params[j]? = some t → args[j]? = some v → Value.okWide Try.prog W .any base t v := hval0
  have hW' := hW
  obtain ⟨p, q, hA0, hV, rfl, hfz, hnd⟩ := hW
  have hA : DataW.TrodAll enc Try.prog W 0 (fun _ => true) true Try.f8.params.toList args.toList ds p := hA0
  rw [Try.params8] at hA hval
  obtain ⟨v0, vs0, d0, ds0, p0, q0, hargs, rfl, rfl, h0, r0⟩ := trodAll_cons hA
  obtain ⟨v1, vs1, d1, ds1, p1, q1, rfl, rfl, rfl, h1, r1⟩ := trodAll_cons r0
  obtain ⟨v2, vs2, d2, ds2, p2, q2, rfl, rfl, rfl, h2, r2⟩ := trodAll_cons r1
  obtain ⟨v3, vs3, d3, ds3, p3, q3, rfl, rfl, rfl, h3, r3⟩ := trodAll_cons r2
  obtain ⟨v4, vs4, d4, ds4, p4, q4, rfl, rfl, rfl, h4, r4⟩ := trodAll_cons r3
  obtain ⟨rfl, rfl, rfl⟩ := trodAll_nil r4
  obtain rfl : args = #[v0, v1, v2, v3, v4] := by cases args; simp_all
  obtain ⟨rfl, rfl⟩ := trodVars_none hV
  have lt0 : ∀ x ∈ p0, x.block < W.heap.size := by obtain ⟨m, hm⟩ := h0; exact DataW.trod_lt m _ _ _ hm
  obtain ⟨a0, len0, cap0, z0, rfl, w0⟩ := open_codes (hval 0 22 v0 rfl rfl) h0
  have lt1 : ∀ x ∈ p1, x.block < W.heap.size := by obtain ⟨m, hm⟩ := h1; exact DataW.trod_lt m _ _ _ hm
  obtain ⟨a1, len1, cap1, z1, rfl, w1⟩ := open_codes (hval 1 22 v1 rfl rfl) h1
  have lt2 : ∀ x ∈ p2, x.block < W.heap.size := by obtain ⟨m, hm⟩ := h2; exact DataW.trod_lt m _ _ _ hm
  obtain ⟨a2, len2, cap2, z2, rfl, w2⟩ := open_codes (hval 2 22 v2 rfl rfl) h2
  have lt3 : ∀ x ∈ p3, x.block < W.heap.size := by obtain ⟨m, hm⟩ := h3; exact DataW.trod_lt m _ _ _ hm
  obtain ⟨x3, rfl, b3⟩ := open_u64 (hval 3 34 v3 rfl rfl) h3
  have lt4 : ∀ x ∈ p4, x.block < W.heap.size := by obtain ⟨m, hm⟩ := h4; exact DataW.trod_lt m _ _ _ hm
  obtain ⟨x4, rfl, b4⟩ := open_i64 (hval 4 2 v4 rfl rfl) h4
  clear hA0 hval0
  refine (walk a0 len0 cap0 z0 a1 len1 cap1 z1 a2 len2 cap2 z2 x3 x4 W w0 w1 w2 b3 b4).mono fun e W' ⟨he, bel⟩ => ?_
  subst he
  exact ⟨_, rfl, _, _, _, [], _, [], hW', trodAll_mk1 (shut_bool Try.underlying4 _), (trodAll_cons_mk (Below.trod laidOut (by kernel_rfl) (of_decide_eq_true (by kernel_rfl)) h0 bel lt0) (trodAll_cons_mk (Below.trod laidOut (by kernel_rfl) (of_decide_eq_true (by kernel_rfl)) h1 bel lt1) (trodAll_cons_mk (Below.trod laidOut (by kernel_rfl) (of_decide_eq_true (by kernel_rfl)) h2 bel lt2) (trodAll_cons_mk (Below.trod laidOut (by kernel_rfl) (of_decide_eq_true (by kernel_rfl)) h3 bel lt3) (trodAll_cons_mk (Below.trod laidOut (by kernel_rfl) (of_decide_eq_true (by kernel_rfl)) h4 bel lt4) trodAll_mk0))))), rfl, bel.frame _, fun h => by cases h⟩

theorem over : Rows.codecReturnsRow.holds Try.pinned (OpenSpec.ofChange Rows.codecReturnsSpec) :=
  OpenClaim.holds_of_wide 8 Try.f8 rfl rfl rfl rfl rfl rfl rfl ⟨rfl, rfl, rfl, rfl, rfl⟩ rfl rfl rfl rfl rfl (by kernel_rfl) Try.func8 (by kernel_rfl)
    (of_decide_eq_true (by kernel_rfl)) (by unfold Func.isWrapper; first | (rw [if_pos (by decide +kernel)]; kernel_rfl) | (rw [if_neg (by decide +kernel)]; exact ⟨rfl, rfl⟩))
    (fun os started H enc _ => lifted os started H enc)
theorem proved : Rows.CodecReturnsSaid := over
end Returns
end Go.Proofs.Ytekmllanhppiaaa
