/- The law IntervalMakes returns true for all codes, every value and every kind, without conditions. -/
import Derived.Test.YtllakifmflploaaVt
import Derived.Test.YtllakifmflploaaN
import Derived.Deep.RegionHeld3
set_option linter.unusedSimpArgs false
set_option linter.unusedVariables false
namespace Go.Proofs.Ytllakifmflploaa
open Go.ChangeShapes Go.WideShapes Go.ChangeAt Go.RowKit

namespace Makes
set_option maxHeartbeats 4000000 in
set_option maxRecDepth 100000 in
theorem walk (a : Option Addr) (len cap : Nat) (zs : List Int) (v : V) (kind : Int) (w : World) (hr : IsRow .u8 w a len cap zs) (hv : isNum v.n) (hk : isNum kind) :
    Calls Try.prog 6 #[.slice a len cap, v.val, .int .i64 kind] w fun e w' => e = .returned (.bool true) ∧ Below w.heap.size w w' := by
  have mx := mixed
  obtain ⟨vk, vn, vt⟩ := v
  have HV := Lib.hid hv
  obtain ⟨gv, hgv⟩ : ∃ gv, w.heap.size = gv := ⟨_, rfl⟩
  have HGV := Lib.hid hgv
  have hb0 : Below w.heap.size w (w.alloc (vObj ⟨vk, vn, vt⟩ 35)) := (Below.refl _ _).alloc (Nat.le_refl _) _
  have hN := new_calls a len cap zs _ (hr.later hb0)
  have HN := Lib.hid hN
  clear hN hr hv hb0 hgv
  go_enter Try.func6, Try.ntmps6
  go_wp2_with fail
  refine HN.out.mono ?_
  rintro e w1 ⟨cb, c, rfl, hbs, hcs, hb1⟩
  have hbv : Box w1 w.heap.size ⟨vk, vn, vt⟩ := (Box.new w ⟨vk, vn, vt⟩ 35).later hb1
  have hne : w.heap.size ≠ cb := by simp at hbs; omega
  have hcb : w.heap.size ≤ cb := by simp at hbs; omega
  have hb2 : Below w.heap.size w w1 := ((Below.refl _ _).alloc (Nat.le_refl _) _).trans (hb1.mono (by simp))
  rw [HGV.out] at hbv hne ⊢
  have HCB := Lib.hid hcb
  have HBV := Lib.hid hbv
  have HNE := Lib.hid hne
  have HB2 := Lib.hid hb2
  have hlt := hcs.lt
  obtain ⟨lv, v0, v1, v2⟩ := hbv.cells
  clear HN hbs hb1 hbv hb2 hcb
  go_wp2_with fail
  go_region_held3 (fun w' => w'.cell? ⟨gv, 0, none⟩ = some (.int .i64 vk) ∧ w'.cell? ⟨gv, 1, none⟩ = some (.int .i64 vn) ∧ w'.cell? ⟨gv, 2, none⟩ = some (.string vt)) (go_keep)
    (first | (go_at_call 21; refine (any_calls cb c _ (by first | exact hcs | exact hcs.grown (drew_by _))).mono ?_; rintro e w2 ⟨⟨xk, xn, xt⟩, rfl, hval2, hnum2, hcs2, hby2⟩; have d0 : w2.cell? ⟨gv, 0, none⟩ = some (.int .i64 vk) := hby2.cell (by go_simp) (by simp; omega); have d1 : w2.cell? ⟨gv, 1, none⟩ = some (.int .i64 vn) := hby2.cell (by go_simp) (by simp; omega); have d2 : w2.cell? ⟨gv, 2, none⟩ = some (.string vt) := hby2.cell (by go_simp) (by simp; omega)))
  go_wp2_with fail
  obtain ⟨W, hW⟩ : ∃ W, W = w2.alloc (.cells #[.int .i64 vk, .int .i64 vn, .string vt, .int .i64 xk, .int .i64 xn, .string xt] 35) := ⟨_, rfl⟩
  rw [← hW]
  have hgW : Gro w2 W := by rw [hW]; exact (Gro.refl _).alloc _
  have hrow : ∃ vs : List V, vs.length = 2 ∧ (∀ y ∈ vs, isNum y.n) ∧ RowIn W w2.heap.size 0 vs := by
    refine ⟨[⟨vk, vn, vt⟩, ⟨xk, xn, xt⟩], rfl, ?_, by rw [hW]; simp, fun i hi => ?_⟩
    · intro y hy
      simp at hy
      rcases hy with rfl | rfl
      · exact HV.out
      · exact hnum2
    · obtain rfl | rfl : i = 0 ∨ i = 1 := by simp at hi; omega
      all_goals (rw [hW]; exact ⟨by go_simp; try rfl, by go_simp; try rfl, by go_simp; try rfl⟩)
  have hbW : Below w.heap.size w W := by
    have h1 : Below w.heap.size w w2 := (HB2.out.drew).grown hby2 (by have := HB2.out.size; simpa using this) (fun k hk => by cases hk; exact HCB.out)
    rw [hW]; exact h1.alloc h1.size _
  have hcW : CaseAt W cb c := hcs2.below hgW
  have hbx : Box W gv ⟨vk, vn, vt⟩ := (HBV.out.kept (by_trans (by_some (drew_by _) _) hby2) HNE.out).later hgW.below
  have hgc : w2.heap.size ≠ cb := by have := hcs2.lt; omega
  generalize w2.heap.size = g at hrow hgc ⊢
  obtain ⟨vs, hvl, hvn, hrow⟩ := hrow
  have HR := Lib.hid hrow
  have HL := Lib.hid hvl
  have HVN := Lib.hid hvn
  have HBW := Lib.hid hbW
  have HCW := Lib.hid hcW
  have HBX := Lib.hid hbx
  have HGC := Lib.hid hgc
  clear hrow hvl hvn hbW hcW hbx hgc hgW hW hne hcs hlt lv v0 v1 v2 d0 d1 d2 hby2 hcs2 hval2 hnum2
  go_loopw [35] (fun i wr => ∃ k : Nat, k ≤ 2 ∧ i = .int .i64 k ∧ CaseAt wr cb c ∧ Box wr gv ⟨vk, vn, vt⟩ ∧ RowIn wr g 0 vs ∧ Below w.heap.size w wr) (fun i _ => 2 - (intOf i).toNat)
  case atStart => exact ⟨0, by omega, rfl, HCW.out, HBX.out, HR.out, HBW.out⟩
  case round =>
    obtain ⟨k, hk, rfl, hcs, hbx, hrow, hb⟩ := hrel
    have HC := Lib.hid hcs
    have HX := Lib.hid hbx
    have HR1 := Lib.hid hrow
    have HB := Lib.hid hb
    clear hcs hbx hb HCW HBX HR HBW
    by_cases hlt : k < 2
    · have hkl : k < vs.length := by rw [HL.out]; exact hlt
      obtain ⟨e0, e1, e2⟩ := hrow.at_ k hkl
      have hgl := hrow.blk
      have hpn := HVN.out _ (List.getElem_mem hkl)
      rw [Nat.zero_add] at e0 e1 e2
      generalize vs[k] = P at e0 e1 e2 hpn
      obtain ⟨pk, pn, pT⟩ := P
      simp only at e0 e1 e2 hpn
      have HPN := Lib.hid hpn
      have hlt' : decide ((k : Int) < 2) = true := by simp; omega
      have HKK := Lib.hid hlt
      obtain ⟨wo, rfl⟩ : ∃ wo : World, wo = wr := ⟨_, rfl⟩
      clear hrow hpn
      go_wp2_with fail
      obtain ⟨Wm, hWm⟩ : ∃ Wm, Wm = wo.alloc (.cells #[.int .i64 pk, .int .i64 pn, .string pT] 35) := ⟨_, rfl⟩
      rw [← hWm]
      have hPm : Box Wm wo.heap.size ⟨pk, pn, pT⟩ := by rw [hWm]; exact Box.new wo ⟨pk, pn, pT⟩ _
      have hgm : Gro wo Wm := by rw [hWm]; exact (Gro.refl _).alloc _
      have hbm : Below w.heap.size w Wm := by rw [hWm]; exact HB.out.alloc HB.out.size _
      have hcs : CaseAt Wm cb c := HC.out.below hgm
      have HXm := Lib.hid (HX.out.later hgm.below)
      have HRm := Lib.hid (HR1.out.later hgm.below)
      have hpc : wo.heap.size ≠ cb := by have := HC.out.lt; omega
      generalize wo.heap.size = gp at hPm hpc ⊢
      have HBm := Lib.hid hbm
      have HPm := Lib.hid hPm
      have HPC := Lib.hid hpc
      obtain ⟨lv, v0, v1, v2⟩ := HXm.out.cells
      obtain ⟨lp, p0, p1, p2⟩ := hPm.cells
      have hlc := hcs.lt
      have hvc := HNE.out
      clear hWm hbm hgm e0 e1 e2 hgl hlt hlt' hPm HC HX HR1 HB
      go_wp2_with fail
      go_region_held3 (fun w' => w'.cell? ⟨gv, 0, none⟩ = some (.int .i64 vk) ∧ w'.cell? ⟨gv, 1, none⟩ = some (.int .i64 vn) ∧ w'.cell? ⟨gv, 2, none⟩ = some (.string vt) ∧ w'.cell? ⟨gp, 0, none⟩ = some (.int .i64 pk) ∧ w'.cell? ⟨gp, 1, none⟩ = some (.int .i64 pn) ∧ w'.cell? ⟨gp, 2, none⟩ = some (.string pT)) (go_keep)
        (first | (go_at_call 21; refine (any_calls cb c _ (by first | exact hcs | exact hcs.grown (drew_by _))).mono ?_; rintro e w2 ⟨⟨xk, xn, xt⟩, rfl, hval2, hnum2, hcs2, hby2⟩; have d0 : w2.cell? ⟨gv, 0, none⟩ = some (.int .i64 vk) := hby2.cell (by go_simp) (by simp; omega); have d1 : w2.cell? ⟨gv, 1, none⟩ = some (.int .i64 vn) := hby2.cell (by go_simp) (by simp; omega); have d2 : w2.cell? ⟨gv, 2, none⟩ = some (.string vt) := hby2.cell (by go_simp) (by simp; omega); have q0 : w2.cell? ⟨gp, 0, none⟩ = some (.int .i64 pk) := hby2.cell (by go_simp) (by simp; omega); have q1 : w2.cell? ⟨gp, 1, none⟩ = some (.int .i64 pn) := hby2.cell (by go_simp) (by simp; omega); have q2 : w2.cell? ⟨gp, 2, none⟩ = some (.string pT) := hby2.cell (by go_simp) (by simp; omega); have lv2 : gv < w2.heap.size := Nat.lt_of_lt_of_le lv (Nat.le_trans (by simp) hby2.size); have lp2 : gp < w2.heap.size := Nat.lt_of_lt_of_le lp (Nat.le_trans (by simp) hby2.size)))
      go_wp2_with fail
      obtain ⟨W, hW⟩ : ∃ W, W = w2.alloc (.cells #[.int .i64 vk, .int .i64 vn, .string vt, .int .i64 xk, .int .i64 xn, .string xt, .int .i64 pk, .int .i64 pn, .string pT] 35) := ⟨_, rfl⟩
      rw [← hW]
      have hgW : Gro w2 W := by rw [hW]; exact (Gro.refl _).alloc _
      have hq : ∃ qs : List V, qs.length = 3 ∧ RowIn W w2.heap.size 0 qs := by
        refine ⟨[⟨vk, vn, vt⟩, ⟨xk, xn, xt⟩, ⟨pk, pn, pT⟩], rfl, by rw [hW]; simp, fun i hi => ?_⟩
        obtain rfl | rfl | rfl : i = 0 ∨ i = 1 ∨ i = 2 := by simp at hi; omega
        all_goals (rw [hW]; exact ⟨by go_simp; try rfl, by go_simp; try rfl, by go_simp; try rfl⟩)
      have hbW : Below w.heap.size w W := by
        have h1 : Below w.heap.size w w2 := (HBm.out.drew).grown hby2 (by have := HBm.out.size; simpa using this) (fun k hk => by cases hk; exact HCB.out)
        rw [hW]; exact h1.alloc h1.size _
      have HBY := Lib.hid (by_trans (by_some (drew_by Wm) (some cb)) hby2)
      have HCW := Lib.hid (hcs2.below hgW)
      have HXW := Lib.hid ((HXm.out.kept HBY.out HNE.out).later hgW.below)
      have HPW := Lib.hid ((HPm.out.kept HBY.out HPC.out).later hgW.below)
      have HRW := Lib.hid ((HRm.out.kept HBY.out HGC.out).later hgW.below)
      generalize w2.heap.size = gq at hq ⊢
      obtain ⟨qs, hql, hqr⟩ := hq
      have HQL := Lib.hid hql
      have HQR := Lib.hid hqr
      have HBW := Lib.hid hbW
      have HPB := Lib.hid (fun w' => HPW.out.later (w' := w'))
      clear hql hqr hbW hgW hW hcs hlc hvc lv v0 v1 v2 lp p0 p1 p2 hcs2 hby2 d0 d1 d2 q0 q1 q2 lv2 lp2 hval2 hnum2 hpc HBY HXm HRm HPm HBm
      go_loopw [45] (fun i wr => ∃ j : Nat, j ≤ 3 ∧ i = .int .i64 j ∧ Below W.heap.size W wr) (fun i _ => 3 - (intOf i).toNat)
      case atStart => exact ⟨0, by omega, rfl, Below.refl _ _⟩
      case round =>
        obtain ⟨j, hj, rfl, hb⟩ := hrel
        have HB := Lib.hid hb
        by_cases hlt : j < 3
        · have hjl : j < qs.length := by rw [HQL.out]; exact hlt
          obtain ⟨e0, e1, e2⟩ := (HQR.out.later hb).at_ j hjl
          have hgl := (HQR.out.later hb).blk
          rw [Nat.zero_add] at e0 e1 e2
          generalize qs[j] = Q at e0 e1 e2
          obtain ⟨qk, qn, qT⟩ := Q
          simp only at e0 e1 e2
          have hlt' : decide ((j : Int) < 3) = true := by simp; omega
          have HJJ := Lib.hid hlt
          obtain ⟨wi, rfl⟩ : ∃ wi : World, wi = wr := ⟨_, rfl⟩
          obtain ⟨lp, p0, p1, p2⟩ := (HPW.out.later hb).cells
          have HT := Lib.hid (fun w' => between_calls ⟨pk, pn, pT⟩ ⟨qk, qn, qT⟩ w')
          have HU := Lib.hid (fun w' => refBetween_calls ⟨pk, pn, pT⟩ ⟨qk, qn, qT⟩ w')
          generalize betweenL ⟨pk, pn, pT⟩ ⟨qk, qn, qT⟩ = L0 at HT HU
          generalize betweenE ⟨pk, pn, pT⟩ ⟨qk, qn, qT⟩ = E0 at HT HU
          clear hb
          go_wp2_with fail
          obtain ⟨Wn, hWn⟩ : ∃ Wn, Wn = wi.alloc (.cells #[.int .i64 qk, .int .i64 qn, .string qT] 35) := ⟨_, rfl⟩
          rw [← hWn]
          have hQn : Box Wn wi.heap.size ⟨qk, qn, qT⟩ := by rw [hWn]; exact Box.new wi ⟨qk, qn, qT⟩ _
          have hgn : Gro wi Wn := by rw [hWn]; exact (Gro.refl _).alloc _
          generalize wi.heap.size = gn at hQn ⊢
          have HGN := Lib.hid hgn
          have HQN := Lib.hid hQn
          clear hWn hgn hQn e0 e1 e2 hgl p0 p1 p2 lp hlt hlt'
          refine (HT.out _).mono ?_
          rintro e w5 ⟨u5, rfl, hi5, hg5⟩
          have HI5 := Lib.hid hi5
          have HG5 := Lib.hid (HGN.out.trans hg5)
          obtain ⟨a5, k5, rfl⟩ := iv_slice hi5
          obtain ⟨lp, p0, p1, p2⟩ := ((HPW.out.later HB.out).later HG5.out.below).cells
          obtain ⟨lq, q0, q1, q2⟩ := (HQN.out.later hg5.below).cells
          clear hi5 hg5
          go_wp2_with fail
          refine (HU.out _).mono ?_
          rintro e w6 ⟨u6, rfl, hi6, hg6⟩
          have HI6 := Lib.hid hi6
          have HG6 := Lib.hid (HG5.out.trans hg6)
          obtain ⟨a6, k6, rfl⟩ := iv_slice hi6
          have HS := Lib.hid (sameI_calls _ _ L0 L0 w6 (HI5.out.later hg6.below) hi6)
          have HS' : Hid (Calls Try.prog 45 #[.slice a5 L0.length k5, .slice a6 L0.length k6] w6 fun e w' => e = .returned (.bool true) ∧ Gro w6 w') := by
            show Calls _ _ _ _ _
            have := HS.out; simpa using this
          clear hi6 hg6 p0 p1 p2 lp q0 q1 q2 lq HS HT HU HI5 HI6
          generalize L0.length = n0 at HS' ⊢
          go_wp2_with fail
          refine HS'.out.mono ?_
          rintro e w7 ⟨rfl, hg7⟩
          have HG7 := Lib.hid (HG6.out.trans hg7)
          clear hg7
          go_wp2
          have hjj := HJJ.out
          exact ⟨⟨j + 1, by omega, by go_num, HB.out.trans (HG7.out.below.mono HB.out.size)⟩, by simp [intOf]; omega⟩
        · have hlt' : decide ((j : Int) < 3) = false := by simp; omega
          obtain ⟨wi, rfl⟩ : ∃ wi : World, wi = wr := ⟨_, rfl⟩
          obtain ⟨lp, p0, p1, p2⟩ := (HPW.out.later hb).cells
          have HT := Lib.hid (fun w' => one_calls ⟨pk, pn, pT⟩ HPN.out.1 w')
          have HU := Lib.hid (fun w' => refOne_calls ⟨pk, pn, pT⟩ HPN.out.1 HPN.out.2 w')
          generalize oneL ⟨pk, pn, pT⟩ = L0 at HT HU
          generalize oneE ⟨pk, pn, pT⟩ = E0 at HT HU
          have HT2 := Lib.hid (fun w' => from_calls ⟨pk, pn, pT⟩ w')
          have HU2 := Lib.hid (fun w' => refFrom_calls ⟨pk, pn, pT⟩ w')
          generalize fromL ⟨pk, pn, pT⟩ = L1 at HT2 HU2
          generalize fromE ⟨pk, pn, pT⟩ = E1 at HT2 HU2
          have HPX := Lib.hid (HPW.out.later hb)
          clear hb hlt
          go_wp2_with fail
          refine (HT.out _).mono ?_
          rintro e w5 ⟨u5, rfl, hi5, hg5⟩
          have HI5 := Lib.hid hi5
          have HG5 := Lib.hid hg5
          obtain ⟨a5, k5, rfl⟩ := iv_slice hi5
          obtain ⟨lp, p0, p1, p2⟩ := (HPX.out.later hg5.below).cells
          clear hi5 hg5
          go_wp2_with fail
          refine (HU.out _).mono ?_
          rintro e w6 ⟨u6, rfl, hi6, hg6⟩
          have HI6 := Lib.hid hi6
          have HG6 := Lib.hid (HG5.out.trans hg6)
          have HI5' := Lib.hid (HI5.out.later hg6.below)
          obtain ⟨a6, k6, rfl⟩ := iv_slice hi6
          obtain ⟨lp, p0, p1, p2⟩ := (HPX.out.later HG6.out.below).cells
          clear hi6 hg6
          go_wp2_with fail
          refine (HT2.out _).mono ?_
          rintro e w7 ⟨u7, rfl, hi7, hg7⟩
          have HI7 := Lib.hid hi7
          have HG7 := Lib.hid (HG6.out.trans hg7)
          have HI5 := Lib.hid (HI5'.out.later hg7.below)
          have HI6 := Lib.hid (HI6.out.later hg7.below)
          obtain ⟨a7, k7, rfl⟩ := iv_slice hi7
          obtain ⟨lp, p0, p1, p2⟩ := (HPX.out.later HG7.out.below).cells
          clear hi7 hg7
          go_wp2_with fail
          refine (HU2.out _).mono ?_
          rintro e w8 ⟨u8, rfl, hi8, hg8⟩
          have HG8 := Lib.hid (HG7.out.trans hg8)
          have HS : Hid (Calls Try.prog 45 #[.slice a5 L0.length k5, .slice a6 L0.length k6] w8 fun e w' => e = .returned (.bool true) ∧ Gro w8 w') := by
            show Calls _ _ _ _ _
            have := sameI_calls _ _ L0 L0 w8 (HI5.out.later hg8.below) (HI6.out.later hg8.below); simpa using this
          obtain ⟨a8, k8, rfl⟩ := iv_slice hi8
          have HS2 : Hid (∀ w9, Gro w8 w9 → Calls Try.prog 45 #[.slice a7 L1.length k7, .slice a8 L1.length k8] w9 fun e w' => e = .returned (.bool true) ∧ Gro w9 w') := fun w9 hg9 => by
            have := sameI_calls _ _ L1 L1 w9 ((HI7.out.later hg8.below).later hg9.below) (hi8.later hg9.below); simpa using this
          clear hi8 hg8 p0 p1 p2 lp HT HU HT2 HU2 HI5 HI6 HI7
          generalize L0.length = n0 at HS ⊢
          generalize L1.length = n1 at HS2 ⊢
          go_wp2_with fail
          refine HS.out.mono ?_
          rintro e w9 ⟨rfl, hg9⟩
          have HG9 := Lib.hid (HG8.out.trans hg9)
          have HS3 := Lib.hid (HS2.out w9 hg9)
          clear hg9
          go_wp2_with fail
          refine HS3.out.mono ?_
          rintro e w10 ⟨rfl, hg10⟩
          have hbe : Below W.heap.size W w10 := HB.out.trans ((HG9.out.trans hg10).below.mono HB.out.size)
          have HBE := Lib.hid hbe
          clear hg10 hbe
          go_wp2
          have hkk := HKK.out
          exact ⟨⟨k + 1, by omega, by go_num, HCW.out.grown ⟨HBE.out.os, HBE.out.tape, HBE.out.output, HBE.out.size, fun k hk _ => HBE.out.block k hk⟩, HXW.out.later HBE.out, HRW.out.later HBE.out, HBW.out.trans (HBE.out.mono HBW.out.size)⟩, by simp [intOf]; omega⟩
    · have hlt' : decide ((k : Int) < 2) = false := by simp; omega
      obtain ⟨wo, rfl⟩ : ∃ wo : World, wo = wr := ⟨_, rfl⟩
      have HT := Lib.hid (fun w' => ofKind_calls kind w')
      have HU := Lib.hid (fun w' => refOfKind_calls kind w')
      generalize kindL kind = L0 at HT HU
      generalize kindE kind = E0 at HT HU
      clear hlt hrow
      go_wp2_with fail
      refine (HT.out _).mono ?_
      rintro e w5 ⟨u5, rfl, hi5, hg5⟩
      have HI5 := Lib.hid hi5
      have HG5 := Lib.hid hg5
      obtain ⟨a5, k5, rfl⟩ := iv_slice hi5
      clear hi5 hg5
      go_wp2_with fail
      refine (HU.out _).mono ?_
      rintro e w6 ⟨u6, rfl, hi6, hg6⟩
      have HI6 := Lib.hid hi6
      have HI5' := Lib.hid (HI5.out.later hg6.below)
      have HG6 := Lib.hid (HG5.out.trans hg6)
      obtain ⟨a6, k6, rfl⟩ := iv_slice hi6
      clear hi6 hg6
      go_wp2_with fail
      refine (ibegun_calls _).mono ?_
      rintro e w7 ⟨rfl, hb7⟩
      have HB7 := Lib.hid (HG6.out.below.trans (hb7.mono HG6.out.size))
      have HS : Hid (Calls Try.prog 45 #[.slice a5 L0.length k5, .slice a6 L0.length k6] w7 fun e w' => e = .returned (.bool true) ∧ Gro w7 w') := by
        show Calls _ _ _ _ _
        have := sameI_calls _ _ L0 L0 w7 (HI5'.out.later hb7) (HI6.out.later hb7); simpa using this
      clear hb7 HT HU HI5 HI6 HI5'
      generalize L0.length = n0 at HS ⊢
      go_wp2_with fail
      refine HS.out.mono ?_
      rintro e w8 ⟨rfl, hg8⟩
      have HG8 := Lib.hid hg8
      clear hg8
      go_wp2_with fail
      refine (all_calls _).mono ?_
      rintro e w9 ⟨b9, rfl, hi9, hg9⟩
      have HI9 := Lib.hid hi9
      have HG9 := Lib.hid (HG8.out.trans hg9)
      clear hi9 hg9
      go_wp2_with fail
      refine (refAll_calls _).mono ?_
      rintro e w10 ⟨b10, rfl, hi10, hg10⟩
      have HS2 : Hid (Calls Try.prog 45 #[.slice (some ⟨b9, 0, none⟩) 1 1, .slice (some ⟨b10, 0, none⟩) 1 1] w10 fun e w' => e = .returned (.bool true) ∧ Gro w10 w') := by
        show Calls _ _ _ _ _
        have := sameI_calls _ _ allL allL w10 (HI9.out.later hg10.below) hi10; simpa using this
      have HG10 := Lib.hid (HG9.out.trans hg10)
      clear hi10 hg10
      go_wp2_with fail
      refine HS2.out.mono ?_
      rintro e w11 ⟨rfl, hg11⟩
      have HG11 := Lib.hid (HG10.out.trans hg11)
      clear hg11
      go_wp2
      go_ret
      have g1 : Below w.heap.size w w7 := HB.out.trans (HB7.out.mono HB.out.size)
      exact ⟨rfl, g1.trans (HG11.out.below.mono g1.size)⟩
set_option maxRecDepth 100000 in
theorem lifted (os : Os) (started : os.Started) (H : Type) (enc : TypeId × Value → H) :
    ReturnsInHanded {} Try.checked os 6 .any (Rows.intervalMakesSpec.pre6 enc Try.prog Try.f6 Rows.intervalMakesRow.domain false) (Rows.intervalMakesSpec.post enc Try.prog Try.f6 false true false false) := by
  refine returnsInHanded_of_change (C := Try.checked) own started (by kernel_rfl) Try.func6
    (ChangeSpec.witness6 (enc := enc) (C := Try.checked) false ⟨#[], #[.slice none 0 0, .agg #[.int .i64 0, .int .i64 0, .string ByteArray.empty], .int .i64 0], []⟩ 8 (by kernel_rfl) (by kernel_rfl) (by kernel_rfl) (by kernel_rfl)) ?_
  intro W base args ds gs before hval0 hW hcnd hsizes
  have hval : ∀ (j : Nat) t v, Try.f6.params[j]? = some t → args[j]? = some v → Value.okWide Try.prog W .any base t v := hval0
  have hW' := hW
  obtain ⟨p, q, hA0, hV, rfl, hfz, hnd⟩ := hW
  have hA : DataW.TrodAll enc Try.prog W 0 (fun _ => true) true Try.f6.params.toList args.toList ds p := hA0
  rw [Try.params6] at hA hval
  obtain ⟨v0, vs0, d0, ds0, p0, q0, hargs, rfl, rfl, h0, r0⟩ := trodAll_cons hA
  obtain ⟨v1, vs1, d1, ds1, p1, q1, rfl, rfl, rfl, h1, r1⟩ := trodAll_cons r0
  obtain ⟨v2, vs2, d2, ds2, p2, q2, rfl, rfl, rfl, h2, r2⟩ := trodAll_cons r1
  obtain ⟨rfl, rfl, rfl⟩ := trodAll_nil r2
  obtain rfl : args = #[v0, v1, v2] := by cases args; simp_all
  obtain ⟨rfl, rfl⟩ := trodVars_none hV
  have lt0 : ∀ x ∈ p0, x.block < W.heap.size := by obtain ⟨m, hm⟩ := h0; exact DataW.trod_lt m _ _ _ hm
  obtain ⟨a0, len0, cap0, z0, rfl, w0⟩ := open_codes (hval 0 22 v0 rfl rfl) h0
  have lt1 : ∀ x ∈ p1, x.block < W.heap.size := by obtain ⟨m, hm⟩ := h1; exact DataW.trod_lt m _ _ _ hm
  obtain ⟨x1, rfl, b1⟩ := open_Vn (hval 1 35 v1 rfl rfl) h1
  have lt2 : ∀ x ∈ p2, x.block < W.heap.size := by obtain ⟨m, hm⟩ := h2; exact DataW.trod_lt m _ _ _ hm
  obtain ⟨x2, rfl, b2⟩ := open_int' (hval 2 3 v2 rfl rfl) h2
  clear hA0 hval0
  refine (walk a0 len0 cap0 z0 x1 x2 W w0 b1 b2).mono fun e W' ⟨he, bel⟩ => ?_
  subst he
  exact ⟨_, rfl, _, _, _, [], _, [], hW', trodAll_mk1 (shut_bool Try.underlying4 _), (trodAll_cons_mk (Below.trod laidOut (by kernel_rfl) (of_decide_eq_true (by kernel_rfl)) h0 bel lt0) (trodAll_cons_mk (Below.trod laidOut (by kernel_rfl) (of_decide_eq_true (by kernel_rfl)) h1 bel lt1) (trodAll_cons_mk (Below.trod laidOut (by kernel_rfl) (of_decide_eq_true (by kernel_rfl)) h2 bel lt2) trodAll_mk0))), rfl, bel.frame _, fun h => by cases h⟩

theorem over : Rows.intervalMakesRow.holds Try.pinned (OpenSpec.ofChange Rows.intervalMakesSpec) :=
  OpenClaim.holds_of_wide 6 Try.f6 rfl rfl rfl rfl rfl rfl rfl ⟨rfl, rfl, rfl, rfl, rfl⟩ rfl rfl rfl rfl rfl (by kernel_rfl) Try.func6 (by kernel_rfl)
    (of_decide_eq_true (by kernel_rfl)) (by unfold Func.isWrapper; first | (rw [if_pos (by decide +kernel)]; kernel_rfl) | (rw [if_neg (by decide +kernel)]; exact ⟨rfl, rfl⟩))
    (fun os started H enc _ => lifted os started H enc)
theorem proved : Rows.IntervalMakesSaid := over
end Makes
end Go.Proofs.Ytllakifmflploaa
