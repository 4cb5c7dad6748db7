/- The law ValueNexts returns true for all codes and every value, without conditions. -/
import Derived.Test.YthlhpjickkhjfaaH
import Derived.Test.YthlhpjickkhjfaaQ
import Derived.Test.YthlhpjickkhjfaaA6
import Derived.Deep.RegionHeld3
set_option linter.unusedSimpArgs false
set_option linter.unusedVariables false
namespace Go.Proofs.Ythlhpjickkhjfaa
open Go.ChangeShapes Go.WideShapes Go.ChangeAt Go.RowKit Go.Joins

namespace Nexts
theorem drew_by (w : World) : w.grownBy w.drew none := ⟨rfl, rfl, rfl, Nat.le_refl _, fun _ _ _ => rfl⟩
set_option maxHeartbeats 2000000 in
set_option maxRecDepth 100000 in
theorem walk (a : Option Addr) (len cap : Nat) (zs : List Int) (v : V) (w : World) (hr : IsRow .u8 w a len cap zs) (hn : isNum v.n) :
    Calls Try.prog 5 #[.slice a len cap, v.val] w fun e w' => e = .returned (.bool true) ∧ Below w.heap.size w w' := by
  have mx := mixed
  obtain ⟨k, n, t⟩ := v
  have hw0 : Below w.heap.size w (w.alloc (.cells #[.int .i64 k, .int .i64 n, .string t] 24)) := (Below.refl _ _).alloc (Nat.le_refl _) _
  have hN := new_calls a len cap zs _ (hr.later hw0)
  have B3 := Box.new w ⟨k, n, t⟩ 24
  have HN := Lib.hid hN
  have HW0 := Lib.hid hw0
  have HNU := Lib.hid hn
  clear hN hw0 hr hn
  go_enter Try.func5, Try.ntmps5
  go_wp2_with fail
  refine HN.out.mono ?_
  rintro e w1 ⟨b, c, rfl, hbs, hcs, hb1⟩
  have C3 := B3.later hb1
  have hb := hcs.lt
  have hne : w.heap.size ≠ b := by simp at hbs; omega
  have HB1 := Lib.hid hb1
  have HBS := Lib.hid hbs
  obtain ⟨l3, q0, q1, q2⟩ := C3.cells
  have hbw : Hid (w1.grownBy w1 (some b)) := ⟨rfl, rfl, rfl, Nat.le_refl _, fun _ _ _ => rfl⟩
  clear B3 hb1 HN C3 hbs l3
  go_wp2_with fail
  have tok1 : True := trivial
  have tok2 : True := trivial
  have lw1 : w.heap.size < w1.heap.size := by have := HBS.out; simp at this; omega
  go_region_held3 (fun w' => w'.cell? ⟨w.heap.size, 0, none⟩ = some (.int .i64 k) ∧ w'.cell? ⟨w.heap.size, 1, none⟩ = some (.int .i64 n) ∧ w'.cell? ⟨w.heap.size, 2, none⟩ = some (.string t)) (go_keep)
    (first
      | (go_at_call 12; have _t := tok1; clear _t; refine (any_calls b c _ (by first | exact hcs | exact hcs.grown (drew_by _))).mono ?_; rintro e w2 ⟨⟨k2, n2, t2⟩, rfl, hval2, hnum2, hcs2, hby2⟩; have p20 : w2.cell? ⟨w.heap.size, 0, none⟩ = some (.int .i64 k) := hby2.cell (by go_simp) (by simp; exact hne); have p21 : w2.cell? ⟨w.heap.size, 1, none⟩ = some (.int .i64 n) := hby2.cell (by go_simp) (by simp; exact hne); have p22 : w2.cell? ⟨w.heap.size, 2, none⟩ = some (.string t) := hby2.cell (by go_simp) (by simp; exact hne); have lw2 : w.heap.size < w2.heap.size := Nat.lt_of_lt_of_le lw1 hby2.size; have HY2 := Lib.hid hby2; have HV2 := Lib.hid hval2; have HN2 := Lib.hid hnum2; clear hby2 hval2 hnum2 tok1)
      | (go_at_call 12; have _t := tok2; clear _t; refine (any_calls b c _ (by first | exact hcs2 | exact hcs2.grown (drew_by _))).mono ?_; rintro e w3 ⟨⟨k3, n3, t3⟩, rfl, hval3, hnum3, hcs3, hby3⟩; have p30 : w3.cell? ⟨w.heap.size, 0, none⟩ = some (.int .i64 k) := hby3.cell (by go_simp) (by simp; exact hne); have p31 : w3.cell? ⟨w.heap.size, 1, none⟩ = some (.int .i64 n) := hby3.cell (by go_simp) (by simp; exact hne); have p32 : w3.cell? ⟨w.heap.size, 2, none⟩ = some (.string t) := hby3.cell (by go_simp) (by simp; exact hne); have lw3 : w.heap.size < w3.heap.size := Nat.lt_of_lt_of_le lw2 hby3.size; have HY3 := Lib.hid hby3; have HV3 := Lib.hid hval3; have HN3 := Lib.hid hnum3; clear hby3 hval3 hnum3 tok2))
  go_wp2_with fail
  obtain ⟨W, hW⟩ : ∃ W, W = w3.alloc (.cells #[.int .i64 k, .int .i64 n, .string t, .int .i64 k2, .int .i64 n2, .string t2, .int .i64 k3, .int .i64 n3, .string t3] 24) := ⟨_, rfl⟩
  rw [← hW]
  have hrow : ∃ vs : List V, vs.length = 3 ∧ RowIn W w3.heap.size 0 vs ∧ ∀ i (h : i < vs.length), isNum vs[i].n := by
    refine ⟨[⟨k, n, t⟩, ⟨k2, n2, t2⟩, ⟨k3, n3, t3⟩], rfl, ⟨by rw [hW]; simp, fun i hi => ?_⟩, fun i hi => ?_⟩
    · obtain rfl | rfl | rfl : i = 0 ∨ i = 1 ∨ i = 2 := by simp at hi; omega
      all_goals (rw [hW]; exact ⟨by go_simp; try rfl, by go_simp; try rfl, by go_simp; try rfl⟩)
    · obtain rfl | rfl | rfl : i = 0 ∨ i = 1 ∨ i = 2 := by simp at hi; omega
      · exact HNU.out
      · exact HN2.out
      · exact HN3.out
  have hby2 : w1.grownBy w2 (some b) := ⟨HY2.out.os, HY2.out.tape, HY2.out.output, HY2.out.size, HY2.out.block⟩
  have hbw1 : Below w.heap.size w w1 := HW0.out.trans (HB1.out.mono HW0.out.size)
  have hbn : w.heap.size ≤ b := Nat.le_trans HW0.out.size HBS.out
  have hbw3 : Below w.heap.size w w3 := hbw1.grown (by_trans hby2 HY3.out) hbw1.size (fun k hk => by cases hk; exact hbn)
  have hbW : Below w.heap.size w W := by rw [hW]; exact hbw3.alloc hbw3.size _
  have hcW : CaseAt W b c := by rw [hW]; exact hcs3.grown (World.grownBy_alloc w3 _ none)
  have hgb : w3.heap.size ≠ b := by have := hcs3.lt; omega
  have HBW := Lib.hid hbW
  have HCW := Lib.hid hcW
  have HBN := Lib.hid hbn
  clear hW hby2 hbw1 hbw3 hbW HY2 HY3 HB1 HW0 hcs hcs2 hcs3 hb hcW hbn hne HV2 HN2 HV3 HN3 hbw HBS HNU
  clear q0 q1 q2 p20 p21 p22 p30 p31 p32 lw1 lw2 lw3
  obtain ⟨vs, hvl, hrow, hnum⟩ := hrow
  generalize w3.heap.size = g at hrow hgb ⊢
  have HR := Lib.hid hrow
  have HL := Lib.hid hvl
  have HNM := Lib.hid hnum
  have HGB := Lib.hid hgb
  clear hrow hvl hnum hgb
  go_loopw [22] (fun i wr => ∃ k : Nat, k ≤ 3 ∧ i = .int .i64 k ∧ CaseAt wr b c ∧ W.grownBy wr (some b)) (fun i _ => 3 - (intOf i).toNat)
  case atStart => exact ⟨0, by omega, rfl, HCW.out, ⟨rfl, rfl, rfl, Nat.le_refl _, fun _ _ _ => rfl⟩⟩
  case round =>
    obtain ⟨k, hk, rfl, hcr, hbr⟩ := hrel
    have HB1 := Lib.hid hbr
    have HC1 := Lib.hid hcr
    clear hbr hcr
    by_cases hlt : k < 3
    · have hkl : k < vs.length := by rw [HL.out]; exact hlt
      have hnb : some g ≠ some b := by simp; exact HGB.out
      obtain ⟨e0, e1, e2⟩ := HR.out.at_ k hkl
      have e0 := HB1.out.cell e0 hnb
      have e1 := HB1.out.cell e1 hnb
      have e2 := HB1.out.cell e2 hnb
      have hgl := Nat.lt_of_lt_of_le HR.out.blk HB1.out.size
      have hpn := HNM.out k hkl
      rw [Nat.zero_add] at e0 e1 e2
      generalize vs[k] = P at e0 e1 e2 hpn
      obtain ⟨pk, pn, pT⟩ := P
      simp only at e0 e1 e2 hpn
      obtain ⟨⟨uk, un, uT⟩, ub, hu, hub⟩ : ∃ (u : V) (ub : Bool), both (nextV ⟨pk, pn, pT⟩) = .tuple #[u.val, .bool ub] ∧ (ub = true → nextV ⟨pk, pn, pT⟩ = some u) := by
        cases h : nextV ⟨pk, pn, pT⟩ with
        | none => exact ⟨_, _, both_none, by simp⟩
        | some u => exact ⟨_, _, both_some u, by simp⟩
      have hX1 : ∀ w, Calls Try.prog 20 #[V.val ⟨pk, pn, pT⟩] w fun e w' => e = .returned (.tuple #[V.val ⟨uk, un, uT⟩, .bool ub]) ∧ Gro w w' := fun w => by rw [← hu]; exact next_calls _ hpn.1 w
      have hX2 : ∀ w, Calls Try.prog 21 #[V.val ⟨pk, pn, pT⟩] w fun e w' => e = .returned (.tuple #[V.val ⟨uk, un, uT⟩, .bool ub]) ∧ Gro w w' := fun w => by rw [← hu]; exact refNext_calls _ hpn.1 w
      have hS := fun (h : ub = true) (q : V) (hq : validB q = true) (hqn : isNum q.n) => next_spec hpn.2 hq hqn.1 hqn.2 (hub h)
      have HX1 := Lib.hid hX1
      have HX2 := Lib.hid hX2
      have HS := Lib.hid hS
      have he := eql_V
      clear hX1 hX2 hS hu hub hpn
      have hlt' : decide ((k : Int) < 3) = true := by simp; omega
      obtain ⟨wo, rfl⟩ : ∃ wo : World, wo = wr := ⟨_, rfl⟩
      go_wp2_with fail
      refine (HX1.out _).mono ?_
      rintro e wa ⟨rfl, hg1⟩
      have BP := (Box.new wo ⟨pk, pn, pT⟩ 24).later hg1.below
      have hca : CaseAt wa b c := HC1.out.grown (by_trans (World.grownBy_alloc wo _ none) (gro_by hg1 none))
      have hba : W.grownBy wa (some b) := by_trans HB1.out (by_trans (World.grownBy_alloc wo _ _) (gro_by hg1 _))
      have hoa : b < wo.heap.size := HC1.out.lt
      have HCA := Lib.hid hca
      have HBA := Lib.hid hba
      have HOA := Lib.hid hoa
      clear hca hba hoa hg1 HC1 HB1 e0 e1 e2 hgl HX1
      obtain ⟨lp0, p00, p01, p02⟩ := BP.cells
      go_wp2_with fail
      refine (HX2.out _).mono ?_
      rintro e wb ⟨rfl, hg2⟩
      have BP2 := (BP.alloc _).later hg2.below
      have BU2 := (Box.new wa ⟨uk, un, uT⟩ 24).later hg2.below
      have hcb : CaseAt wb b c := HCA.out.grown (by_trans (World.grownBy_alloc wa _ none) (gro_by hg2 none))
      have hbb : W.grownBy wb (some b) := by_trans HBA.out (by_trans (World.grownBy_alloc wa _ _) (gro_by hg2 _))
      have hpu : wo.heap.size < wa.heap.size := BP.lt
      have HCB := Lib.hid hcb
      have HBB := Lib.hid hbb
      have HPU := Lib.hid hpu
      obtain ⟨lp, p0, p1, p2⟩ := BP2.cells
      obtain ⟨lu, u0, u1, u2⟩ := BU2.cells
      have HBP := Lib.hid BP2
      have HBU := Lib.hid BU2
      clear hcb hbb hg2 HCA HBA BP BP2 BU2 HX2 hpu lp0 p00 p01 p02
      cases ub
      · clear HS
        go_wp2
        exact ⟨⟨k + 1, by omega, by go_num, HCB.out.grown (World.grownBy_alloc wb _ none), by_trans HBB.out (World.grownBy_alloc wb _ _)⟩, by simp [intOf]; omega⟩
      · have hS := HS.out rfl
        have HS' := Lib.hid hS
        clear HS hS
        go_wp2_with fail
        refine (any_calls b c _ (HCB.out.grown (World.grownBy_alloc wb _ none))).mono ?_
        rintro e wc ⟨⟨qk, qn, qT⟩, rfl, hval, hnq, hcc, hby⟩
        obtain ⟨hv1, hc1, hc2⟩ := HS'.out _ hval hnq
        have hobp : wo.heap.size ≠ b := by have := HOA.out; omega
        have hobu : wa.heap.size ≠ b := by have := HOA.out; have := HPU.out; omega
        have BP3 := (HBP.out.alloc _).kept hby hobp
        have BU3 := (HBU.out.alloc _).kept hby hobu
        have hbc : W.grownBy wc (some b) := by_trans HBB.out (by_trans (World.grownBy_alloc wb _ _) hby)
        have HCC := Lib.hid hcc
        have HBC := Lib.hid hbc
        clear hcc hbc hby hval hnq HCB HBB HBP HBU HS' lp p0 p1 p2 lu u0 u1 u2 hobp hobu
        obtain ⟨lu0, u00, u01, u02⟩ := BU3.cells
        go_wp2_with fail
        obtain ⟨Wd, hWd⟩ : ∃ Wd, Wd = wc.alloc (.cells #[.int .i64 qk, .int .i64 qn, .string qT] 24) := ⟨_, rfl⟩
        rw [← hWd]
        have BP4 := BP3.alloc (.cells #[.int .i64 qk, .int .i64 qn, .string qT] 24)
        have BU4 := BU3.alloc (.cells #[.int .i64 qk, .int .i64 qn, .string qT] 24)
        have BQ4 := Box.new wc ⟨qk, qn, qT⟩ 24
        rw [← hWd] at BP4 BU4 BQ4
        have hcd : CaseAt Wd b c := by rw [hWd]; exact HCC.out.grown (World.grownBy_alloc wc _ none)
        have hbd : W.grownBy Wd (some b) := by rw [hWd]; exact by_trans HBC.out (World.grownBy_alloc wc _ _)
        have HCD := Lib.hid hcd
        have HBD := Lib.hid hbd
        obtain ⟨lp, p0, p1, p2⟩ := BP4.cells
        obtain ⟨lu, u0, u1, u2⟩ := BU4.cells
        obtain ⟨lq, q0, q1, q2⟩ := BQ4.cells
        clear lu0 u00 u01 u02 hcd hbd BP3 BU3 BP4 BU4 BQ4 hWd HCC HBC HPU HOA
        obtain ⟨d1, hd1⟩ : ∃ d : Int, cmpV ⟨pk, pn, pT⟩ ⟨qk, qn, qT⟩ = d := ⟨_, rfl⟩
        obtain ⟨d2, hd2⟩ : ∃ d : Int, cmpV ⟨qk, qn, qT⟩ ⟨uk, un, uT⟩ = d := ⟨_, rfl⟩
        rw [hd1, hd2] at hc2
        have hV : ∀ w, Calls Try.prog 14 #[V.val ⟨uk, un, uT⟩] w fun e w' => e = .returned (.bool true) ∧ Gro w w' := fun w => by rw [← hv1]; exact valid_calls _ w
        have hC1 : ∀ w, Calls Try.prog 18 #[V.val ⟨pk, pn, pT⟩, V.val ⟨uk, un, uT⟩] w fun e w' => e = .returned (.int .i64 (-1)) ∧ Gro w w' := fun w => by rw [← hc1]; exact compare_calls _ _ w
        have hC2 : ∀ w, Calls Try.prog 18 #[V.val ⟨pk, pn, pT⟩, V.val ⟨qk, qn, qT⟩] w fun e w' => e = .returned (.int .i64 d1) ∧ Gro w w' := fun w => by rw [← hd1]; exact compare_calls _ _ w
        have hC3 : ∀ w, Calls Try.prog 18 #[V.val ⟨qk, qn, qT⟩, V.val ⟨uk, un, uT⟩] w fun e w' => e = .returned (.int .i64 d2) ∧ Gro w w' := fun w => by rw [← hd2]; exact compare_calls _ _ w
        have HV := Lib.hid hV
        have HC1 := Lib.hid hC1
        have HC2 := Lib.hid hC2
        have HC3 := Lib.hid hC3
        clear hV hC1 hC2 hC3 hv1 hc1 hd1 hd2
        have hfin : ∀ q os, (∃ k_1 : Nat, k_1 ≤ 3 ∧ Value.int IntKind.i64 (↑k + 1) = Value.int IntKind.i64 ↑k_1 ∧ CaseAt (Sort.grow (Wd.drewN q) os) b c ∧ W.grownBy (Sort.grow (Wd.drewN q) os) (some b)) := fun q os =>
          ⟨k + 1, by omega, by simp, HCD.out.grown (gro_by ((Gro.refl Wd).grown q os) none), by_trans HBD.out (gro_by ((Gro.refl Wd).grown q os) _)⟩
        have HF := Lib.hid hfin
        clear hfin
        go_wp2_with fail
        refine (wide (HV.out _)).mono ?_
        rintro e w' ⟨q5, os5, rfl, rfl⟩
        go_wp2_with fail
        refine (wide (HC1.out _)).mono ?_
        rintro e w' ⟨q6, os6, rfl, rfl⟩
        go_wp2_with fail
        refine (wide (HC2.out _)).mono ?_
        rintro e w' ⟨q7, os7, rfl, rfl⟩
        by_cases z1 : d1 < 0
        · have z2 : ¬ d2 < 0 := fun h => hc2 ⟨z1, h⟩
          clear hc2
          go_wp2_with fail
          refine (wide (HC3.out _)).mono ?_
          rintro e w' ⟨q8, os8, rfl, rfl⟩
          go_wp2
          exact ⟨HF.out _ _, by simp [intOf]; omega⟩
        · clear hc2
          go_wp2
          exact ⟨HF.out _ _, by simp [intOf]; omega⟩
    · have hlt' : decide ((k : Int) < 3) = false := by simp; omega
      go_wp2_with fail
      refine (begun_calls _).mono ?_
      rintro e w9 ⟨rfl, hb9⟩
      have HB9 := Lib.hid hb9
      clear hb9
      go_wp2
      go_ret
      have g1 : Below w.heap.size w wr := HBW.out.grown HB1.out HBW.out.size (fun k hk => by cases hk; exact HBN.out)
      exact ⟨rfl, g1.trans (HB9.out.mono g1.size)⟩

section
variable {H : Type} {enc : TypeId × Value → H} {w : World} {base : Nat} {spare : Nat → Bool} {held : Bool}
theorem open_VN {r : Reach} {b0 : Nat} {v : Value} {d : DataW H} {p : List MemPlace} (hv : Value.okWide Try.prog w r b0 24 v) (h : DataW.Trod enc Try.prog w base spare held 24 v d p) :
    ∃ x : V, v = x.val ∧ isNum x.n := by
  obtain ⟨c0, c1, c2, y0, y1, y2, m, rfl, rfl, rfl, hy0, hy1, hy2⟩ := open_agg3 Try.underlying24 (by kernel_rfl) cells24 hv h
  obtain ⟨a, e0, rfl, wa⟩ := DataW.trod_int Try.underlying3 hy0
  obtain ⟨b, e1, rfl, wb⟩ := DataW.trod_int Try.underlying2 hy1
  obtain ⟨s, e2, rfl, hsz⟩ := DataW.trod_string Try.underlying9 hy2
  simp at e0 e1 e2
  subst e0 e1 e2
  refine ⟨⟨a, b, s⟩, rfl, ?_⟩
  have := wb
  simp [Lit.wf, IntKind.min, IntKind.max, IntKind.bits, IntKind.signed] at this
  unfold isNum
  simp only
  omega
end
set_option maxRecDepth 100000 in
theorem lifted (os : Os) (started : os.Started) (H : Type) (enc : TypeId × Value → H) :
    ReturnsInHanded {} Try.checked os 5 .any (Rows.valueNextsSpec.pre6 enc Try.prog Try.f5 Rows.valueNextsRow.domain false) (Rows.valueNextsSpec.post enc Try.prog Try.f5 false true false false) := by
  refine returnsInHanded_of_change (C := Try.checked) own started (by kernel_rfl) Try.func5
    (ChangeSpec.witness6 (enc := enc) (C := Try.checked) false ⟨#[], #[.slice none 0 0, .agg #[.int .i64 0, .int .i64 0, .string ByteArray.empty]], []⟩ 8 (by kernel_rfl) (by kernel_rfl) (by kernel_rfl) (by kernel_rfl)) ?_
  intro W base args ds gs before hval0 hW hcnd hsizes
  have hval : ∀ (j : Nat) t v, Try.f5.params[j]? = some t → args[j]? = some v → Value.okWide Try.prog W .any base t v := hval0
  have hW' := hW
  obtain ⟨p, q, hA0, hV, rfl, hfz, hnd⟩ := hW
  have hA : DataW.TrodAll enc Try.prog W 0 (fun _ => true) true Try.f5.params.toList args.toList ds p := hA0
  rw [Try.params5] at hA hval
  obtain ⟨v0, vs0, d0, ds0, p0, q0, hargs, rfl, rfl, h0, r0⟩ := trodAll_cons hA
  obtain ⟨v1, vs1, d1, ds1, p1, q1, rfl, rfl, rfl, h1, r1⟩ := trodAll_cons r0
  obtain ⟨rfl, rfl, rfl⟩ := trodAll_nil r1
  obtain rfl : args = #[v0, v1] := by cases args; simp_all
  obtain ⟨rfl, rfl⟩ := trodVars_none hV
  have lt0 : ∀ x ∈ p0, x.block < W.heap.size := by obtain ⟨m, hm⟩ := h0; exact DataW.trod_lt m _ _ _ hm
  obtain ⟨a0, len0, cap0, z0, rfl, w0⟩ := open_codes (hval 0 22 v0 rfl rfl) h0
  have lt1 : ∀ x ∈ p1, x.block < W.heap.size := by obtain ⟨m, hm⟩ := h1; exact DataW.trod_lt m _ _ _ hm
  obtain ⟨x1, rfl, b1⟩ := open_VN (hval 1 24 v1 rfl rfl) h1
  clear hA0 hval0
  refine (walk a0 len0 cap0 z0 x1 W w0 b1).mono fun e W' ⟨he, bel⟩ => ?_
  subst he
  exact ⟨_, rfl, _, _, _, [], _, [], hW', trodAll_mk1 (shut_bool Try.underlying4 _), (trodAll_cons_mk (Below.trod laidOut (by kernel_rfl) (of_decide_eq_true (by kernel_rfl)) h0 bel lt0) (trodAll_cons_mk (Below.trod laidOut (by kernel_rfl) (of_decide_eq_true (by kernel_rfl)) h1 bel lt1) trodAll_mk0)), rfl, bel.frame _, fun h => by cases h⟩

theorem over : Rows.valueNextsRow.holds Try.pinned (OpenSpec.ofChange Rows.valueNextsSpec) :=
  OpenClaim.holds_of_wide 5 Try.f5 rfl rfl rfl rfl rfl rfl rfl ⟨rfl, rfl, rfl, rfl, rfl⟩ rfl rfl rfl rfl rfl (by kernel_rfl) Try.func5 (by kernel_rfl)
    (of_decide_eq_true (by kernel_rfl)) (by unfold Func.isWrapper; first | (rw [if_pos (by decide +kernel)]; kernel_rfl) | (rw [if_neg (by decide +kernel)]; exact ⟨rfl, rfl⟩))
    (fun os started H enc _ => lifted os started H enc)
theorem proved : Rows.ValueNextsSaid := over
end Nexts
end Go.Proofs.Ythlhpjickkhjfaa
