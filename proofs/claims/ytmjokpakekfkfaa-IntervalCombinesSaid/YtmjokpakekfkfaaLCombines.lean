/- The law IntervalCombines returns true for all codes and every list, without conditions. -/
import Derived.Test.YtmjokpakekfkfaaUd
import Derived.Test.YtmjokpakekfkfaaUe
import Derived.Test.YtmjokpakekfkfaaVt
import Derived.Deep.RegionHeld3
set_option linter.unusedSimpArgs false
set_option linter.unusedVariables false
namespace Go.Proofs.Ytmjokpakekfkfaa
open Go.ChangeShapes Go.WideShapes Go.ChangeAt Go.RowKit

namespace LCombines
theorem sameL_calls {va vb : Value} {L : List I} (w : World) (ha : IvAt w va L) (hb : IvAt w vb L) : Calls Try.prog 19 #[va, vb] w fun e w' => e = .returned (.bool true) ∧ Gro w w' := by
  have := sameI_calls va vb L L w ha hb
  simpa using this
set_option maxHeartbeats 4000000 in
set_option maxRecDepth 100000 in
theorem walk (a : Option Addr) (len cap : Nat) (zs : List Int) (pa : Option Addr) (ll lc : Nat) (R : List I) (w : World) (hr : IsRow .u8 w a len cap zs)
    (h1 : ll ≤ lc) (h2 : lc ≤ maxLen) (h3 : R.length = min ll 80) (h4 : IvAt w (.slice pa R.length lc) R) :
    Calls Try.prog 4 #[.slice a len cap, .slice pa ll lc] w fun e w' => e = .returned (.bool true) ∧ Below w.heap.size w w' := by
  have mx := mixed
  have HN := Lib.hid (new120_calls a len cap zs _ hr)
  have H4 := Lib.hid h4
  obtain ⟨M, hM⟩ : ∃ M, R.length = M := ⟨_, rfl⟩
  rw [hM] at H4
  have hmin : min (ll : Int) 80 = (M : Int) := by omega
  have hif : (if (80 : Int) < (ll : Int) then (80 : Int) else (ll : Int)) = (M : Int) := by split <;> omega
  have hMl : M ≤ ll := by omega
  have hMc : M ≤ lc := by omega
  have hcm : (lc : Int) ≤ 9223372036854775807 := by unfold maxLen at h2; omega
  clear hr h3 h4 h2 hM
  go_enter Try.func4, Try.ntmps4
  go_wp2_with fail
  refine HN.out.mono ?_
  rintro e w1 ⟨cb, c, rfl, hbs, hcs, hb1⟩
  have HR1 : Hid (IvX cb w1 (.slice pa M lc) R) := (IvX.of_old H4.out (by simpa using hbs)).later hb1
  have HBS := Lib.hid hbs
  have HB1 := Lib.hid hb1
  have tok1 : True := trivial
  have tok2 : True := trivial
  clear HN hbs hb1 H4
  go_wp2_with fail
  go_region_held3 (fun w' => True) (trivial)
    (first
      | (go_at_call 7; have _t := tok1; clear _t; refine (caseInterval_calls cb c _ (by first | exact hcs | exact hcs.grown (drew_by _))).mono ?_; rintro e w2 ⟨va2, A2, rfl, hoa2, hra2, hla2, hcs2, hby2⟩; obtain ⟨qa2, ka2, rfl⟩ := ownsRow_slice hoa2; clear hra2 tok1)
      | (go_at_call 7; have _t := tok2; clear _t; refine (caseInterval_calls cb c _ (by first | exact hcs2 | exact hcs2.grown (drew_by _))).mono ?_; rintro e w3 ⟨va3, A3, rfl, hoa3, hra3, hla3, hcs3, hby3⟩; obtain ⟨qa3, ka3, rfl⟩ := ownsRow_slice hoa3; clear hra3 tok2)
      | (go_at_call 8; refine (spoilt_calls cb c _ (by first | exact hcs3 | exact hcs3.grown (drew_by _))).mono ?_; rintro e w4 ⟨va4, A4, rfl, hoa4, hla4, hcs4, hby4⟩; obtain ⟨qa4, ka4, rfl⟩ := ownsRow_slice hoa4.own))
  go_wp2_with fail
  all_goals (
    obtain ⟨W, hW⟩ : ∃ W, W = w4.alloc (.cells #[.slice qa2 A2.length ka2, .slice qa3 A3.length ka3, .slice qa4 A4.length ka4, .slice pa M lc] 23) := ⟨_, rfl⟩
    rw [← hW]
    have hgW : Gro w4 W := by rw [hW]; exact (Gro.refl _).alloc _
    have hby2' : w1.grownBy w2 (some cb) := by_trans (by_some (drew_by w1) (some cb)) hby2
    have hbx : w1.grownBy w4 (some cb) := by_trans (by_trans hby2' hby3) hby4
    have HBW : Hid (Below w.heap.size w W) := by
      have h1 := HB1.out.grown hbx HB1.out.size (fun k hk => by cases hk; exact HBS.out)
      exact h1.trans (hgW.below.mono h1.size)
    have hls : ∃ ls : List (Value × List I), ls.length = 4 ∧ (∀ i (h : i < ls.length), W.cell? ⟨w4.heap.size, i, none⟩ = some ls[i].1) ∧ ∀ x ∈ ls, IvAt W x.1 x.2 := by
      refine ⟨[(.slice qa2 A2.length ka2, A2), (.slice qa3 A3.length ka3, A3), (.slice qa4 A4.length ka4, A4), (.slice pa M lc, R)], rfl, fun i hi => ?_, fun x hx => ?_⟩
      · obtain rfl | rfl | rfl | rfl : i = 0 ∨ i = 1 ∨ i = 2 ∨ i = 3 := by simp at hi; omega
        all_goals (rw [hW]; go_simp; try rfl)
      · simp at hx
        rcases hx with rfl | rfl | rfl | rfl
        · exact (OwnI.at_ (own_off hoa2 (by_trans hby3 hby4)) (by omega)).later hgW.below
        · exact (OwnI.at_ (own_off hoa3 hby4) (by omega)).later hgW.below
        · exact hoa4.at_.later hgW.below
        · exact (HR1.out.off hbx).at_.later hgW.below
    have hgl : w4.heap.size < W.heap.size := by rw [hW]; simp
    generalize w4.heap.size = gl at hls hgl ⊢
    obtain ⟨ls, hl3, hcell, hiv⟩ := hls
    have HL3 := Lib.hid hl3
    have HCELL := Lib.hid hcell
    have HIV := Lib.hid hiv
    have HGL := Lib.hid hgl
    clear hl3 hcell hiv hgl hgW hW hbx hby2' hby2 hby3 hby4 hoa2 hoa3 hoa4 hla2 hla3 hla4 hcs hcs2 hcs3 hcs4 HR1 HB1 HBS hmin hif hMl hMc hcm h1
    generalize A2.length = n2
    generalize A3.length = n3
    generalize A4.length = n4
    go_loopw [47] (fun i wr => ∃ k : Nat, k ≤ 4 ∧ i = .int .i64 k ∧ Below W.heap.size W wr) (fun i _ => 4 - (intOf i).toNat)
    case atStart => exact ⟨0, by omega, rfl, Below.refl _ _⟩
    case round =>
      obtain ⟨k, hk, rfl, hb⟩ := hrel
      have HB := Lib.hid hb
      by_cases hlt : k < 4
      · have hkl : k < ls.length := by rw [HL3.out]; exact hlt
        have e0 := (hb.cell (p := ⟨gl, k, none⟩) HGL.out).trans (HCELL.out k hkl)
        have hx := HIV.out _ (List.getElem_mem hkl)
        have hgl := Nat.lt_of_lt_of_le HGL.out hb.size
        generalize ls[k] = P at e0 hx
        obtain ⟨va, A⟩ := P
        simp only at e0 hx
        have HA := Lib.hid hx
        have hlt' : decide ((k : Int) < 4) = true := by simp; omega
        have HKK := Lib.hid hlt
        obtain ⟨wo, rfl⟩ : ∃ wo : World, wo = wr := ⟨_, rfl⟩
        obtain ⟨a1, c1, rfl⟩ := iv_slice hx
        have HC1 := Lib.hid (Complement_calls _ A wo (HA.out.later HB.out))
        have HC2 := Lib.hid (fun w' h => refComplement_calls (.slice a1 A.length c1) A w' h)
        generalize doL opNot allL A = N at HC1 HC2
        generalize doE opNot allL A = E at HC1 HC2
        generalize hna : A.length = na at HA HC1 HC2 e0
        clear hb hx hk
        go_wp2_with fail
        refine HC1.out.mono ?_
        rintro e w2 ⟨p2, k2, rfl, hi2, hb2⟩
        have HI2 := Lib.hid hi2
        have HB2 := Lib.hid (HB.out.trans (hb2.mono HB.out.size))
        clear hi2 hb2 HC1 e0 hgl hlt hlt'
        go_wp2_with fail
        refine (HC2.out w2 (HA.out.later HB2.out)).mono ?_
        rintro e w3 ⟨p3, k3, rfl, hi3, hb3⟩
        have HS := Lib.hid (sameL_calls w3 (HI2.out.later hb3) hi3)
        have HB3 := Lib.hid (HB2.out.trans (hb3.mono HB2.out.size))
        generalize N.length = nn at HS ⊢
        clear hi3 hb3 HC2 HI2 HB2
        go_wp2_with fail
        refine HS.out.mono ?_
        rintro e w4 ⟨rfl, hg4⟩
        have HB4 := Lib.hid (HB3.out.trans (hg4.below.mono HB3.out.size))
        clear hg4 HS HB3 HB
        go_wp2_with fail
        go_loopw [72] (fun i wr => ∃ j : Nat, j ≤ 4 ∧ i = .int .i64 j ∧ Below W.heap.size W wr) (fun i _ => 4 - (intOf i).toNat)
        case atStart => exact ⟨0, by omega, rfl, HB4.out⟩
        case round =>
          obtain ⟨j, hj, rfl, hb⟩ := hrel
          have HB := Lib.hid hb
          by_cases hlt : j < 4
          · have hjl : j < ls.length := by rw [HL3.out]; exact hlt
            have e0 := (hb.cell (p := ⟨gl, j, none⟩) HGL.out).trans (HCELL.out j hjl)
            have hx := HIV.out _ (List.getElem_mem hjl)
            have hgl := Nat.lt_of_lt_of_le HGL.out hb.size
            generalize ls[j] = P at e0 hx
            obtain ⟨vb, B⟩ := P
            simp only at e0 hx
            have HBB := Lib.hid hx
            have hlt' : decide ((j : Int) < 4) = true := by simp; omega
            have HJJ := Lib.hid hlt
            obtain ⟨wi, rfl⟩ : ∃ wi : World, wi = wr := ⟨_, rfl⟩
            obtain ⟨a2, c2, rfl⟩ := iv_slice hx
            have HU := Lib.hid (fun w' h h' => Union_calls (.slice a1 na c1) (.slice a2 B.length c2) A B w' h h')
            have HU' := Lib.hid (fun w' h h' => refUnion_calls (.slice a1 na c1) (.slice a2 B.length c2) A B w' h h')
            have HJ := Lib.hid (fun w' h h' => Intersect_calls (.slice a1 na c1) (.slice a2 B.length c2) A B w' h h')
            have HJ' := Lib.hid (fun w' h h' => refIntersect_calls (.slice a1 na c1) (.slice a2 B.length c2) A B w' h h')
            have HM := Lib.hid (fun w' h h' => Minus_calls (.slice a1 na c1) (.slice a2 B.length c2) A B w' h h')
            have HM' := Lib.hid (fun w' h h' => refMinus_calls (.slice a1 na c1) (.slice a2 B.length c2) A B w' h h')
            have HV := Lib.hid (fun w' h h' => Covers_calls (.slice a1 na c1) (.slice a2 B.length c2) A B w' h h')
            have HV' := Lib.hid (fun w' h h' => refCovers_calls (.slice a1 na c1) (.slice a2 B.length c2) A B w' h h')
            generalize doL opOr A B = L1 at HU HU'
            generalize doE opOr A B = E1 at HU HU'
            generalize doL opAnd A B = L2 at HJ HJ'
            generalize doE opAnd A B = E2 at HJ HJ'
            generalize doL opNot A B = L3 at HM HM'
            generalize doE opNot A B = E3 at HM HM'
            generalize covB A B = D at HV HV'
            generalize covE A B = E4 at HV HV'
            generalize hnb : B.length = nb at HBB HU HU' HJ HJ' HM HM' HV HV' e0
            have hdd : (!D == D) = false := by cases D <;> rfl
            clear hb hx hj
            go_wp2_with fail
            refine (HU.out _ (HA.out.later HB.out) (HBB.out.later HB.out)).mono ?_
            rintro e w5 ⟨p5, k5, rfl, hi5, hb5⟩
            have HI5 := Lib.hid hi5
            have HB5 := Lib.hid (HB.out.trans (hb5.mono HB.out.size))
            clear hi5 hb5 HU e0 hgl hlt hlt'
            go_wp2_with fail
            refine (HU'.out _ (HA.out.later HB5.out) (HBB.out.later HB5.out)).mono ?_
            rintro e w6 ⟨p6, k6, rfl, hi6, hb6⟩
            have HP1 : Hid (IvAt w6 (.slice p5 L1.length k5) L1 ∧ IvAt w6 (.slice p6 L1.length k6) L1) := ⟨HI5.out.later hb6, hi6⟩
            have HB6 := Lib.hid (HB5.out.trans (hb6.mono HB5.out.size))
            generalize L1.length = n1 at HP1 ⊢
            clear hi6 hb6 HU' HI5 HB5
            go_wp2_with fail
            refine (HJ.out _ (HA.out.later HB6.out) (HBB.out.later HB6.out)).mono ?_
            rintro e w7 ⟨p7, k7, rfl, hi7, hb7⟩
            have HI7 := Lib.hid hi7
            have HP1 := Lib.hid (And.intro (HP1.out.1.later hb7) (HP1.out.2.later hb7))
            have HB7 := Lib.hid (HB6.out.trans (hb7.mono HB6.out.size))
            clear hi7 hb7 HJ HB6
            go_wp2_with fail
            refine (HJ'.out _ (HA.out.later HB7.out) (HBB.out.later HB7.out)).mono ?_
            rintro e w8 ⟨p8, k8, rfl, hi8, hb8⟩
            have HP2 : Hid (IvAt w8 (.slice p7 L2.length k7) L2 ∧ IvAt w8 (.slice p8 L2.length k8) L2) := ⟨HI7.out.later hb8, hi8⟩
            have HP1 := Lib.hid (And.intro (HP1.out.1.later hb8) (HP1.out.2.later hb8))
            have HB8 := Lib.hid (HB7.out.trans (hb8.mono HB7.out.size))
            generalize L2.length = n2 at HP2 ⊢
            clear hi8 hb8 HJ' HI7 HB7
            go_wp2_with fail
            refine (HM.out _ (HA.out.later HB8.out) (HBB.out.later HB8.out)).mono ?_
            rintro e w9 ⟨p9, k9, rfl, hi9, hb9⟩
            have HI9 := Lib.hid hi9
            have HP1 := Lib.hid (And.intro (HP1.out.1.later hb9) (HP1.out.2.later hb9))
            have HP2 := Lib.hid (And.intro (HP2.out.1.later hb9) (HP2.out.2.later hb9))
            have HB9 := Lib.hid (HB8.out.trans (hb9.mono HB8.out.size))
            clear hi9 hb9 HM HB8
            go_wp2_with fail
            refine (HM'.out _ (HA.out.later HB9.out) (HBB.out.later HB9.out)).mono ?_
            rintro e w10 ⟨p10, k10, rfl, hi10, hb10⟩
            have HP3 : Hid (IvAt w10 (.slice p9 L3.length k9) L3 ∧ IvAt w10 (.slice p10 L3.length k10) L3) := ⟨HI9.out.later hb10, hi10⟩
            have HP1 := Lib.hid (And.intro (HP1.out.1.later hb10) (HP1.out.2.later hb10))
            have HP2 := Lib.hid (And.intro (HP2.out.1.later hb10) (HP2.out.2.later hb10))
            have HB10 := Lib.hid (HB9.out.trans (hb10.mono HB9.out.size))
            generalize L3.length = n3 at HP3 ⊢
            clear hi10 hb10 HM' HI9 HB9
            go_wp2_with fail
            refine (HV.out _ (HA.out.later HB10.out) (HBB.out.later HB10.out)).mono ?_
            rintro e w11 ⟨rfl, hb11⟩
            have HB11 := Lib.hid (HB10.out.trans (hb11.mono HB10.out.size))
            have HP1 := Lib.hid (And.intro (HP1.out.1.later hb11) (HP1.out.2.later hb11))
            have HP2 := Lib.hid (And.intro (HP2.out.1.later hb11) (HP2.out.2.later hb11))
            have HP3 := Lib.hid (And.intro (HP3.out.1.later hb11) (HP3.out.2.later hb11))
            clear hb11 HV HB10
            go_wp2_with fail
            refine (HV'.out _ (HA.out.later HB11.out) (HBB.out.later HB11.out)).mono ?_
            rintro e w12 ⟨rfl, hb12⟩
            have HB12 := Lib.hid (HB11.out.trans (hb12.mono HB11.out.size))
            have HS1 := Lib.hid (sameL_calls w12 (HP1.out.1.later hb12) (HP1.out.2.later hb12))
            have HP2 := Lib.hid (And.intro (HP2.out.1.later hb12) (HP2.out.2.later hb12))
            have HP3 := Lib.hid (And.intro (HP3.out.1.later hb12) (HP3.out.2.later hb12))
            clear hb12 HV' HB11
            go_wp2_with fail
            refine HS1.out.mono ?_
            rintro e w13 ⟨rfl, hg13⟩
            have HS2 := Lib.hid (sameL_calls w13 (HP2.out.1.later hg13.below) (HP2.out.2.later hg13.below))
            have HP3 := Lib.hid (And.intro (HP3.out.1.later hg13.below) (HP3.out.2.later hg13.below))
            have HB13 := Lib.hid (HB12.out.trans (hg13.below.mono HB12.out.size))
            clear hg13 HS1 HB12
            go_wp2_with fail
            refine HS2.out.mono ?_
            rintro e w14 ⟨rfl, hg14⟩
            have HS3 := Lib.hid (sameL_calls w14 (HP3.out.1.later hg14.below) (HP3.out.2.later hg14.below))
            have HB14 := Lib.hid (HB13.out.trans (hg14.below.mono HB13.out.size))
            clear hg14 HS2 HB13
            go_wp2_with fail
            refine HS3.out.mono ?_
            rintro e w15 ⟨rfl, hg15⟩
            have HB15 := Lib.hid (HB14.out.trans (hg15.below.mono HB14.out.size))
            clear hg15 HS3 HB14
            have hwk := step_int j (by have := HJJ.out; omega)
            go_wp2
            generalize wrap64 ((j : Int) + 1) = z at hwk ⊢
            subst hwk
            have hjj := HJJ.out
            exact ⟨⟨j + 1, by omega, by go_num, HB15.out⟩, by simp [intOf]; omega⟩
          · have hlt' : decide ((j : Int) < 4) = false := by simp; omega
            have hkk := HKK.out
            have hwk := step_int k (by have := HKK.out; omega)
            clear hb hlt hj
            go_wp2
            generalize wrap64 ((k : Int) + 1) = z at hwk ⊢
            subst hwk
            exact ⟨⟨k + 1, by omega, by go_num, HB.out⟩, by simp [intOf]; omega⟩
      · have hlt' : decide ((k : Int) < 4) = false := by simp; omega
        clear hlt hk
        go_wp2_with fail
        refine (ibegun_calls _).mono ?_
        rintro e w7 ⟨rfl, hb7⟩
        have HB7 := Lib.hid (HBW.out.trans ((HB.out.trans (hb7.mono HB.out.size)).mono HBW.out.size))
        clear hb7
        go_wp2
        go_ret
        exact ⟨rfl, HB7.out⟩)
set_option maxRecDepth 100000 in
theorem lifted (os : Os) (started : os.Started) (H : Type) (enc : TypeId × Value → H) :
    ReturnsInHanded {} Try.checked os 4 .any (Rows.intervalCombinesSpec.pre6 enc Try.prog Try.f4 Rows.intervalCombinesRow.domain false) (Rows.intervalCombinesSpec.post enc Try.prog Try.f4 false true false false) := by
  refine returnsInHanded_of_change (C := Try.checked) own started (by kernel_rfl) Try.func4
    (ChangeSpec.witness6 (enc := enc) (C := Try.checked) false ⟨#[], #[.slice none 0 0, .slice none 0 0], []⟩ 8 (by kernel_rfl) (by kernel_rfl) (by kernel_rfl) (by kernel_rfl)) ?_
  intro W base args ds gs before hval0 hW hcnd hsizes
  have hval : ∀ (j : Nat) t v, Try.f4.params[j]? = some t → args[j]? = some v → Value.okWide Try.prog W .any base t v := hval0
  have hW' := hW
  obtain ⟨p, q, hA0, hV, rfl, hfz, hnd⟩ := hW
  have hA : DataW.TrodAll enc Try.prog W 0 (fun _ => true) true Try.f4.params.toList args.toList ds p := hA0
  rw [Try.params4] at hA hval
  obtain ⟨v0, vs0, d0, ds0, p0, q0, hargs, rfl, rfl, h0, r0⟩ := trodAll_cons hA
  obtain ⟨v1, vs1, d1, ds1, p1, q1, rfl, rfl, rfl, h1, r1⟩ := trodAll_cons r0
  obtain ⟨rfl, rfl, rfl⟩ := trodAll_nil r1
  obtain rfl : args = #[v0, v1] := by cases args; simp_all
  obtain ⟨rfl, rfl⟩ := trodVars_none hV
  have lt0 : ∀ x ∈ p0, x.block < W.heap.size := by obtain ⟨m, hm⟩ := h0; exact DataW.trod_lt m _ _ _ hm
  obtain ⟨a0, len0, cap0, z0, rfl, w0⟩ := open_codes (hval 0 22 v0 rfl rfl) h0
  have lt1 : ∀ x ∈ p1, x.block < W.heap.size := by obtain ⟨m, hm⟩ := h1; exact DataW.trod_lt m _ _ _ hm
  obtain ⟨pa1, ll1, lc1, A1, rfl, q11, q21, q31, q41⟩ := open_Ivs80 (hval 1 23 v1 rfl rfl) h1
  clear hA0 hval0
  refine (walk a0 len0 cap0 z0 pa1 ll1 lc1 A1 W w0 q11 q21 q31 q41).mono fun e W' ⟨he, bel⟩ => ?_
  subst he
  exact ⟨_, rfl, _, _, _, [], _, [], hW', trodAll_mk1 (shut_bool Try.underlying4 _), (trodAll_cons_mk (Below.trod laidOut (by kernel_rfl) (of_decide_eq_true (by kernel_rfl)) h0 bel lt0) (trodAll_cons_mk (Below.trod laidOut (by kernel_rfl) (of_decide_eq_true (by kernel_rfl)) h1 bel lt1) trodAll_mk0)), rfl, bel.frame _, fun h => by cases h⟩

theorem over : Rows.intervalCombinesRow.holds Try.pinned (OpenSpec.ofChange Rows.intervalCombinesSpec) :=
  OpenClaim.holds_of_wide 4 Try.f4 rfl rfl rfl rfl rfl rfl rfl ⟨rfl, rfl, rfl, rfl, rfl⟩ rfl rfl rfl rfl rfl (by kernel_rfl) Try.func4 (by kernel_rfl)
    (of_decide_eq_true (by kernel_rfl)) (by unfold Func.isWrapper; first | (rw [if_pos (by decide +kernel)]; kernel_rfl) | (rw [if_neg (by decide +kernel)]; exact ⟨rfl, rfl⟩))
    (fun os started H enc _ => lifted os started H enc)
theorem proved : Rows.IntervalCombinesSaid := over
end LCombines
end Go.Proofs.Ytmjokpakekfkfaa
