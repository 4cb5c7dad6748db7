/- The law ValueCompares returns true for all codes and every three values, without conditions. -/
import Derived.Test.YthlhpjickkhjfaaH
import Derived.Deep.RegionHeld3
set_option linter.unusedSimpArgs false
set_option linter.unusedVariables false
namespace Go.Proofs.Ythlhpjickkhjfaa
open Go.ChangeShapes Go.WideShapes Go.ChangeAt Go.RowKit

namespace Compares
theorem drew_by (w : World) : w.grownBy w.drew none := ⟨rfl, rfl, rfl, Nat.le_refl _, fun _ _ _ => rfl⟩
set_option maxHeartbeats 4000000 in
set_option maxRecDepth 100000 in
theorem walk (a : Option Addr) (len cap : Nat) (zs : List Int) (va vb vx : V) (w : World) (hr : IsRow .u8 w a len cap zs) (ha : -9223372036854775808 ≤ va.n) (hb : -9223372036854775808 ≤ vb.n) (hx : -9223372036854775808 ≤ vx.n) :
    Calls Try.prog 4 #[.slice a len cap, va.val, vb.val, vx.val] w fun e w' => e = .returned (.bool true) ∧ Below w.heap.size w w' := by
  have mx := mixed
  obtain ⟨ak, an, aT⟩ := va
  obtain ⟨bk, bn, bT⟩ := vb
  obtain ⟨xk, xn, xT⟩ := vx
  obtain ⟨W0, hW0⟩ : ∃ W0, W0 = ((w.alloc (.cells #[.int .i64 ak, .int .i64 an, .string aT] 24)).alloc (.cells #[.int .i64 bk, .int .i64 bn, .string bT] 24)).alloc (.cells #[.int .i64 xk, .int .i64 xn, .string xT] 24) := ⟨_, rfl⟩
  have hw0 : Below w.heap.size w W0 := by rw [hW0]; exact (((Gro.refl w).alloc _).alloc _).alloc _ |>.below
  have hs0 : W0.heap.size = w.heap.size + 3 := by rw [hW0]; simp
  have hN := new_calls a len cap zs _ (hr.later hw0)
  have HN := Lib.hid hN
  have HW0 := Lib.hid hw0
  have HS0 := Lib.hid hs0
  have k50 : W0.cell? ⟨w.heap.size, 0, none⟩ = some (.int .i64 ak) := by rw [hW0]; go_simp
  have k51 : W0.cell? ⟨w.heap.size, 1, none⟩ = some (.int .i64 an) := by rw [hW0]; go_simp
  have k52 : W0.cell? ⟨w.heap.size, 2, none⟩ = some (.string aT) := by rw [hW0]; go_simp
  have k60 : W0.cell? ⟨w.heap.size + 1, 0, none⟩ = some (.int .i64 bk) := by rw [hW0]; go_simp
  have k61 : W0.cell? ⟨w.heap.size + 1, 1, none⟩ = some (.int .i64 bn) := by rw [hW0]; go_simp
  have k62 : W0.cell? ⟨w.heap.size + 1, 2, none⟩ = some (.string bT) := by rw [hW0]; go_simp
  have k70 : W0.cell? ⟨w.heap.size + 1 + 1, 0, none⟩ = some (.int .i64 xk) := by rw [hW0]; go_simp
  have k71 : W0.cell? ⟨w.heap.size + 1 + 1, 1, none⟩ = some (.int .i64 xn) := by rw [hW0]; go_simp
  have k72 : W0.cell? ⟨w.heap.size + 1 + 1, 2, none⟩ = some (.string xT) := by rw [hW0]; go_simp
  clear hN hw0 hr ha hb hx
  have HWE := Lib.hid hW0
  clear hW0 hs0
  go_enter Try.func4, Try.ntmps4
  go_wp2_with fail
  rw [← HWE.out]
  refine HN.out.mono ?_
  rintro e w1 ⟨cb, c, rfl, hbs, hcs, hb1⟩
  have hb := hcs.lt
  have hsz0 := HS0.out
  have hne : w.heap.size + 3 ≤ cb := by omega
  have q50 : w1.cell? ⟨w.heap.size, 0, none⟩ = some (.int .i64 ak) := (hb1.cell (p := ⟨w.heap.size, 0, none⟩) (by dsimp only; omega)).trans k50
  have q51 : w1.cell? ⟨w.heap.size, 1, none⟩ = some (.int .i64 an) := (hb1.cell (p := ⟨w.heap.size, 1, none⟩) (by dsimp only; omega)).trans k51
  have q52 : w1.cell? ⟨w.heap.size, 2, none⟩ = some (.string aT) := (hb1.cell (p := ⟨w.heap.size, 2, none⟩) (by dsimp only; omega)).trans k52
  have lw5 : w.heap.size < w1.heap.size := by have := hb1.size; omega
  have q60 : w1.cell? ⟨w.heap.size + 1, 0, none⟩ = some (.int .i64 bk) := (hb1.cell (p := ⟨w.heap.size + 1, 0, none⟩) (by dsimp only; omega)).trans k60
  have q61 : w1.cell? ⟨w.heap.size + 1, 1, none⟩ = some (.int .i64 bn) := (hb1.cell (p := ⟨w.heap.size + 1, 1, none⟩) (by dsimp only; omega)).trans k61
  have q62 : w1.cell? ⟨w.heap.size + 1, 2, none⟩ = some (.string bT) := (hb1.cell (p := ⟨w.heap.size + 1, 2, none⟩) (by dsimp only; omega)).trans k62
  have lw6 : w.heap.size + 1 < w1.heap.size := by have := hb1.size; omega
  have q70 : w1.cell? ⟨w.heap.size + 1 + 1, 0, none⟩ = some (.int .i64 xk) := (hb1.cell (p := ⟨w.heap.size + 1 + 1, 0, none⟩) (by dsimp only; omega)).trans k70
  have q71 : w1.cell? ⟨w.heap.size + 1 + 1, 1, none⟩ = some (.int .i64 xn) := (hb1.cell (p := ⟨w.heap.size + 1 + 1, 1, none⟩) (by dsimp only; omega)).trans k71
  have q72 : w1.cell? ⟨w.heap.size + 1 + 1, 2, none⟩ = some (.string xT) := (hb1.cell (p := ⟨w.heap.size + 1 + 1, 2, none⟩) (by dsimp only; omega)).trans k72
  have lw7 : w.heap.size + 1 + 1 < w1.heap.size := by have := hb1.size; omega
  have HB1 := Lib.hid hb1
  have HNE := Lib.hid hne
  clear hb1 hsz0 HN k50 k51 k52 k60 k61 k62 k70 k71 k72
  have tok1 : True := trivial
  have tok2 : True := trivial
  go_wp2_with fail
  go_region_held3 (fun w' => w'.cell? ⟨w.heap.size, 0, none⟩ = some (.int .i64 ak) ∧ w'.cell? ⟨w.heap.size, 1, none⟩ = some (.int .i64 an) ∧ w'.cell? ⟨w.heap.size, 2, none⟩ = some (.string aT) ∧ w'.cell? ⟨w.heap.size + 1, 0, none⟩ = some (.int .i64 bk) ∧ w'.cell? ⟨w.heap.size + 1, 1, none⟩ = some (.int .i64 bn) ∧ w'.cell? ⟨w.heap.size + 1, 2, none⟩ = some (.string bT) ∧ w'.cell? ⟨w.heap.size + 1 + 1, 0, none⟩ = some (.int .i64 xk) ∧ w'.cell? ⟨w.heap.size + 1 + 1, 1, none⟩ = some (.int .i64 xn) ∧ w'.cell? ⟨w.heap.size + 1 + 1, 2, none⟩ = some (.string xT)) (go_keep)
    (first
      | (go_at_call 12; have _t := tok1; clear _t; refine (any_calls cb c _ (by first | exact hcs | exact hcs.grown (drew_by _))).mono ?_; rintro e w2 ⟨⟨k2, n2, t2⟩, rfl, hval2, hnum2, hcs2, hby2⟩; have p250 : w2.cell? ⟨w.heap.size, 0, none⟩ = some (.int .i64 ak) := hby2.cell (by go_simp) (by simp; omega); have p251 : w2.cell? ⟨w.heap.size, 1, none⟩ = some (.int .i64 an) := hby2.cell (by go_simp) (by simp; omega); have p252 : w2.cell? ⟨w.heap.size, 2, none⟩ = some (.string aT) := hby2.cell (by go_simp) (by simp; omega); have p260 : w2.cell? ⟨w.heap.size + 1, 0, none⟩ = some (.int .i64 bk) := hby2.cell (by go_simp) (by simp; omega); have p261 : w2.cell? ⟨w.heap.size + 1, 1, none⟩ = some (.int .i64 bn) := hby2.cell (by go_simp) (by simp; omega); have p262 : w2.cell? ⟨w.heap.size + 1, 2, none⟩ = some (.string bT) := hby2.cell (by go_simp) (by simp; omega); have p270 : w2.cell? ⟨w.heap.size + 1 + 1, 0, none⟩ = some (.int .i64 xk) := hby2.cell (by go_simp) (by simp; omega); have p271 : w2.cell? ⟨w.heap.size + 1 + 1, 1, none⟩ = some (.int .i64 xn) := hby2.cell (by go_simp) (by simp; omega); have p272 : w2.cell? ⟨w.heap.size + 1 + 1, 2, none⟩ = some (.string xT) := hby2.cell (by go_simp) (by simp; omega); have l25 : w.heap.size < w2.heap.size := Nat.lt_of_lt_of_le lw5 hby2.size; have l26 : w.heap.size + 1 < w2.heap.size := Nat.lt_of_lt_of_le lw6 hby2.size; have l27 : w.heap.size + 1 + 1 < w2.heap.size := Nat.lt_of_lt_of_le lw7 hby2.size; have HY2 := Lib.hid hby2; clear hby2 hval2 hnum2 tok1)
      | (go_at_call 12; have _t := tok2; clear _t; refine (any_calls cb c _ (by first | exact hcs2 | exact hcs2.grown (drew_by _))).mono ?_; rintro e w3 ⟨⟨k3, n3, t3⟩, rfl, hval3, hnum3, hcs3, hby3⟩; have p350 : w3.cell? ⟨w.heap.size, 0, none⟩ = some (.int .i64 ak) := hby3.cell (by go_simp) (by simp; omega); have p351 : w3.cell? ⟨w.heap.size, 1, none⟩ = some (.int .i64 an) := hby3.cell (by go_simp) (by simp; omega); have p352 : w3.cell? ⟨w.heap.size, 2, none⟩ = some (.string aT) := hby3.cell (by go_simp) (by simp; omega); have p360 : w3.cell? ⟨w.heap.size + 1, 0, none⟩ = some (.int .i64 bk) := hby3.cell (by go_simp) (by simp; omega); have p361 : w3.cell? ⟨w.heap.size + 1, 1, none⟩ = some (.int .i64 bn) := hby3.cell (by go_simp) (by simp; omega); have p362 : w3.cell? ⟨w.heap.size + 1, 2, none⟩ = some (.string bT) := hby3.cell (by go_simp) (by simp; omega); have p370 : w3.cell? ⟨w.heap.size + 1 + 1, 0, none⟩ = some (.int .i64 xk) := hby3.cell (by go_simp) (by simp; omega); have p371 : w3.cell? ⟨w.heap.size + 1 + 1, 1, none⟩ = some (.int .i64 xn) := hby3.cell (by go_simp) (by simp; omega); have p372 : w3.cell? ⟨w.heap.size + 1 + 1, 2, none⟩ = some (.string xT) := hby3.cell (by go_simp) (by simp; omega); have l35 : w.heap.size < w3.heap.size := Nat.lt_of_lt_of_le l25 hby3.size; have l36 : w.heap.size + 1 < w3.heap.size := Nat.lt_of_lt_of_le l26 hby3.size; have l37 : w.heap.size + 1 + 1 < w3.heap.size := Nat.lt_of_lt_of_le l27 hby3.size; have HY3 := Lib.hid hby3; clear hby3 hval3 hnum3 tok2))
  go_wp2_with fail
  obtain ⟨W, hW⟩ : ∃ W, W = w3.alloc (.cells #[.int .i64 ak, .int .i64 an, .string aT, .int .i64 bk, .int .i64 bn, .string bT, .int .i64 xk, .int .i64 xn, .string xT, .int .i64 k2, .int .i64 n2, .string t2, .int .i64 k3, .int .i64 n3, .string t3] 24) := ⟨_, rfl⟩
  rw [← hW]
  have hrow : ∃ vs : List V, vs.length = 5 ∧ RowIn W w3.heap.size 0 vs := by
    refine ⟨[⟨ak, an, aT⟩, ⟨bk, bn, bT⟩, ⟨xk, xn, xT⟩, ⟨k2, n2, t2⟩, ⟨k3, n3, t3⟩], rfl, by rw [hW]; simp, fun i hi => ?_⟩
    obtain rfl | rfl | rfl | rfl | rfl : i = 0 ∨ i = 1 ∨ i = 2 ∨ i = 3 ∨ i = 4 := by simp at hi; omega
    all_goals (rw [hW]; exact ⟨by go_simp; try rfl, by go_simp; try rfl, by go_simp; try rfl⟩)
  have hby2 : w1.grownBy w2 (some cb) := ⟨HY2.out.os, HY2.out.tape, HY2.out.output, HY2.out.size, HY2.out.block⟩
  have hby3 : w2.grownBy w3 (some cb) := ⟨HY3.out.os, HY3.out.tape, HY3.out.output, HY3.out.size, HY3.out.block⟩
  have hbw1 : Below w.heap.size w w1 := HW0.out.trans (HB1.out.mono HW0.out.size)
  have hbw3 : Below w.heap.size w w3 := hbw1.grown (by_trans hby2 hby3) hbw1.size (fun k hk => by cases hk; have := HNE.out; omega)
  have hbW : Below w.heap.size w W := by rw [hW]; exact hbw3.alloc hbw3.size _
  have HBW := Lib.hid hbW
  clear hW hby2 hby3 hbw1 hbw3 hbW HY2 HY3 HB1 HNE HW0 HS0 HWE hcs hcs2 hcs3 hb
  clear q50 q51 q52 q60 q61 q62 q70 q71 q72 p250 p251 p252 p260 p261 p262 p270 p271 p272 p350 p351 p352 p360 p361 p362 p370 p371 p372 lw5 lw6 lw7 l25 l26 l27 l35 l36 l37
  obtain ⟨vs, hvl, hrow⟩ := hrow
  generalize w3.heap.size = g at hrow ⊢
  have HR := Lib.hid hrow
  have HL := Lib.hid hvl
  have he := eql_V
  clear hrow hvl
  go_loopw [30] (fun i wr => ∃ k : Nat, k ≤ 5 ∧ i = .int .i64 k ∧ Below W.heap.size W wr) (fun i _ => 5 - (intOf i).toNat)
  case atStart => exact ⟨0, by omega, rfl, Below.refl _ _⟩
  case round =>
    obtain ⟨k, hk, rfl, hbr⟩ := hrel
    have HB1 := Lib.hid hbr
    clear hbr
    by_cases hlt : k < 5
    · have hkl : k < vs.length := by rw [HL.out]; exact hlt
      obtain ⟨e0, e1, e2⟩ := (HR.out.later HB1.out).at_ k hkl
      have hgl := (HR.out.later HB1.out).blk
      rw [Nat.zero_add] at e0 e1 e2
      generalize vs[k] = P at e0 e1 e2
      obtain ⟨pk, pn, pT⟩ := P
      simp only at e0 e1 e2
      have hlt' : decide ((k : Int) < 5) = true := by simp; omega
      obtain ⟨wo, rfl⟩ : ∃ wo : World, wo = wr := ⟨_, rfl⟩
      go_wp2_with fail
      obtain ⟨Wm, hWm⟩ : ∃ Wm, Wm = wo.alloc (.cells #[.int .i64 pk, .int .i64 pn, .string pT] 24) := ⟨_, rfl⟩
      rw [← hWm]
      have HPm : Box Wm wo.heap.size ⟨pk, pn, pT⟩ := by rw [hWm]; exact Box.new wo ⟨pk, pn, pT⟩ _
      have hbm : Below W.heap.size W Wm := by rw [hWm]; exact HB1.out.alloc HB1.out.size _
      generalize wo.heap.size = gp at HPm ⊢
      have HBm := Lib.hid hbm
      clear hWm hbm e0 e1 e2 hgl hlt hlt'
      go_loopw [36] (fun i wr => ∃ j : Nat, j ≤ 5 ∧ i = .int .i64 j ∧ Below Wm.heap.size Wm wr) (fun i _ => 5 - (intOf i).toNat)
      case atStart => exact ⟨0, by omega, rfl, Below.refl _ _⟩
      case round =>
        obtain ⟨j, hj, rfl, hbr⟩ := hrel
        have HB2 := Lib.hid hbr
        clear hbr
        by_cases hltj : j < 5
        · have hjl : j < vs.length := by rw [HL.out]; exact hltj
          have hrow2 := (HR.out.later HBm.out).later HB2.out
          obtain ⟨e0, e1, e2⟩ := hrow2.at_ j hjl
          have hgl := hrow2.blk
          rw [Nat.zero_add] at e0 e1 e2
          generalize vs[j] = Q at e0 e1 e2
          obtain ⟨qk, qn, qT⟩ := Q
          simp only at e0 e1 e2
          have hBp := HPm.later HB2.out
          obtain ⟨lp, f0, f1, f2⟩ := hBp.cells
          have HBp := Lib.hid hBp
          have HR2 := Lib.hid hrow2
          have hr1 := goodV.range ⟨pk, pn, pT⟩ ⟨qk, qn, qT⟩
          obtain ⟨d, hpq⟩ : ∃ d : Int, cmpV ⟨pk, pn, pT⟩ ⟨qk, qn, qT⟩ = d := ⟨_, rfl⟩
          have hqp : cmpV ⟨qk, qn, qT⟩ ⟨pk, pn, pT⟩ = -d := by rw [goodV.neg, hpq]
          rw [hpq] at hr1
          have hd1 : -1 ≤ d := by omega
          have hd2 : d ≤ 1 := by omega
          obtain ⟨bq, hbq⟩ : ∃ bq : Bool, (d == 0) = bq := ⟨_, rfl⟩
          have he1 : ∀ w, (binOp .eql 24 (.agg #[.int .i64 pk, .int .i64 pn, .string pT]) (.agg #[.int .i64 qk, .int .i64 qn, .string qT])).run Try.prog w = .ok (.bool bq) w := fun w => by
            rw [eql_V, ← hbq]
            congr 2
            rw [Bool.eq_iff_iff]
            simp only [decide_eq_true_eq, beq_iff_eq]
            rw [← hpq, goodV.zero]
          have hltj' : decide ((j : Int) < 5) = true := by simp; omega
          clear hr1 hBp hrow2 he
          obtain ⟨wo2, rfl⟩ : ∃ wo2 : World, wo2 = wr := ⟨_, rfl⟩
          go_wp2_with (first | (go_at_call 18; refine (wide (compare_calls ⟨_, _, _⟩ ⟨_, _, _⟩ _)).mono ?_; rintro e w' ⟨q, os, rfl, rfl⟩) | (go_at_call 19; refine (wide (refCompare_calls ⟨_, _, _⟩ ⟨_, _, _⟩ _)).mono ?_; rintro e w' ⟨q, os, rfl, rfl⟩))
          go_loopw [66] (fun i wr => ∃ r : Nat, r ≤ 5 ∧ i = .int .i64 r ∧ Box wr gp ⟨pk, pn, pT⟩ ∧ Box wr wo2.heap.size ⟨qk, qn, qT⟩ ∧ RowIn wr g 0 vs ∧ Below Wm.heap.size Wm wr) (fun i _ => 5 - (intOf i).toNat)
          case atStart => exact ⟨0, by omega, rfl, HBp.out.later (((Gro.refl wo2).alloc _).grown _ _).below, (Box.new wo2 ⟨qk, qn, qT⟩ 24).later ((Gro.refl _).grown _ _).below, HR2.out.later (((Gro.refl wo2).alloc _).grown _ _).below, HB2.out.trans ((((Gro.refl wo2).alloc _).grown _ _).below.mono HB2.out.size)⟩
          case round =>
            obtain ⟨r, hr, rfl, hbp3, hbq3, hrow3, hb3⟩ := hrel
            have HBp3 := Lib.hid hbp3
            have HBq3 := Lib.hid hbq3
            have HR3 := Lib.hid hrow3
            have HB3 := Lib.hid hb3
            clear e0 e1 e2 hgl f0 f1 f2 lp he1 hqp hbq
            by_cases hltr : r < 5
            · have hrl : r < vs.length := by rw [HL.out]; exact hltr
              obtain ⟨e0, e1, e2⟩ := hrow3.at_ r hrl
              have hgl := hrow3.blk
              rw [Nat.zero_add] at e0 e1 e2
              generalize vs[r] = R at e0 e1 e2
              obtain ⟨rk, rn, rT⟩ := R
              simp only at e0 e1 e2
              obtain ⟨lp, f0, f1, f2⟩ := hbp3.cells
              obtain ⟨lq, h0, h1, h2⟩ := hbq3.cells
              have htr := goodV.trans ⟨pk, pn, pT⟩ ⟨qk, qn, qT⟩ ⟨rk, rn, rT⟩
              obtain ⟨d3, hd3⟩ : ∃ d : Int, cmpV ⟨qk, qn, qT⟩ ⟨rk, rn, rT⟩ = d := ⟨_, rfl⟩
              obtain ⟨d4, hd4⟩ : ∃ d : Int, cmpV ⟨pk, pn, pT⟩ ⟨rk, rn, rT⟩ = d := ⟨_, rfl⟩
              rw [hpq, hd3, hd4] at htr
              have hltr' : decide ((r : Int) < 5) = true := by simp; omega
              clear hbp3 hbq3 hrow3 hb3
              obtain ⟨wo3, rfl⟩ : ∃ wo3 : World, wo3 = wr := ⟨_, rfl⟩
              by_cases z1 : d ≤ 0
              · by_cases z3 : d3 ≤ 0
                · have z4 : ¬ 0 < d4 := by have := htr z1 z3; omega
                  clear htr
                  go_wp2_with (first | (go_at_call 18; refine (wide (compare_calls ⟨_, _, _⟩ ⟨_, _, _⟩ _)).mono ?_; rintro e w' ⟨q, os, rfl, rfl⟩))
                  exact ⟨⟨r + 1, by omega, by go_num, HBp3.out.later (((Gro.refl wo3).alloc _).grown _ _).below, HBq3.out.later (((Gro.refl wo3).alloc _).grown _ _).below, HR3.out.later (((Gro.refl wo3).alloc _).grown _ _).below, HB3.out.trans ((((Gro.refl wo3).alloc _).grown _ _).below.mono HB3.out.size)⟩, by simp [intOf]; omega⟩
                · clear htr
                  go_wp2_with (first | (go_at_call 18; refine (wide (compare_calls ⟨_, _, _⟩ ⟨_, _, _⟩ _)).mono ?_; rintro e w' ⟨q, os, rfl, rfl⟩))
                  exact ⟨⟨r + 1, by omega, by go_num, HBp3.out.later (((Gro.refl wo3).alloc _).grown _ _).below, HBq3.out.later (((Gro.refl wo3).alloc _).grown _ _).below, HR3.out.later (((Gro.refl wo3).alloc _).grown _ _).below, HB3.out.trans ((((Gro.refl wo3).alloc _).grown _ _).below.mono HB3.out.size)⟩, by simp [intOf]; omega⟩
              · clear htr
                go_wp2_with (first | (go_at_call 18; refine (wide (compare_calls ⟨_, _, _⟩ ⟨_, _, _⟩ _)).mono ?_; rintro e w' ⟨q, os, rfl, rfl⟩))
                exact ⟨⟨r + 1, by omega, by go_num, HBp3.out.later ((Gro.refl wo3).alloc _).below, HBq3.out.later ((Gro.refl wo3).alloc _).below, HR3.out.later ((Gro.refl wo3).alloc _).below, HB3.out.trans (((Gro.refl wo3).alloc _).below.mono HB3.out.size)⟩, by simp [intOf]; omega⟩
            · have hltr' : decide ((r : Int) < 5) = false := by simp; omega
              clear hbp3 hbq3 hrow3 hb3
              go_wp2
              have hlen := HL.out; exact ⟨⟨j + 1, by omega, by go_num, HB3.out⟩, by simp [intOf]; omega⟩
        · have hltj' : decide ((j : Int) < 5) = false := by simp; omega
          go_wp2
          have hlen := HL.out
          exact ⟨⟨k + 1, by omega, by go_num, HBm.out.trans (HB2.out.mono HBm.out.size)⟩, by simp [intOf]; omega⟩
    · have hlt' : decide ((k : Int) < 5) = false := by simp; omega
      go_wp2_with fail
      refine (begun_calls _).mono ?_
      rintro e w9 ⟨rfl, hb9⟩
      have HB9 := Lib.hid hb9
      clear hb9
      go_wp2
      go_ret
      have g1 : Below w.heap.size w wr := HBW.out.trans (HB1.out.mono HBW.out.size)
      exact ⟨rfl, g1.trans (HB9.out.mono g1.size)⟩
set_option maxRecDepth 100000 in
theorem lifted (os : Os) (started : os.Started) (H : Type) (enc : TypeId × Value → H) :
    ReturnsInHanded {} Try.checked os 4 .any (Rows.valueComparesSpec.pre6 enc Try.prog Try.f4 Rows.valueComparesRow.domain false) (Rows.valueComparesSpec.post enc Try.prog Try.f4 false true false false) := by
  refine returnsInHanded_of_change (C := Try.checked) own started (by kernel_rfl) Try.func4
    (ChangeSpec.witness6 (enc := enc) (C := Try.checked) false ⟨#[], #[.slice none 0 0, .agg #[.int .i64 0, .int .i64 0, .string ByteArray.empty], .agg #[.int .i64 0, .int .i64 0, .string ByteArray.empty], .agg #[.int .i64 0, .int .i64 0, .string ByteArray.empty]], []⟩ 8 (by kernel_rfl) (by kernel_rfl) (by kernel_rfl) (by kernel_rfl)) ?_
  intro W base args ds gs before hval0 hW hcnd hsizes
  have hval : ∀ (j : Nat) t v, Try.f4.params[j]? = some t → args[j]? = some v → Value.okWide Try.prog W .any base t v := hval0
  have hW' := hW
  obtain ⟨p, q, hA0, hV, rfl, hfz, hnd⟩ := hW
  have hA : DataW.TrodAll enc Try.prog W 0 (fun _ => true) true Try.f4.params.toList args.toList ds p := hA0
  rw [Try.params4] at hA hval
  obtain ⟨v0, vs0, d0, ds0, p0, q0, hargs, rfl, rfl, h0, r0⟩ := trodAll_cons hA
  obtain ⟨v1, vs1, d1, ds1, p1, q1, rfl, rfl, rfl, h1, r1⟩ := trodAll_cons r0
  obtain ⟨v2, vs2, d2, ds2, p2, q2, rfl, rfl, rfl, h2, r2⟩ := trodAll_cons r1
  obtain ⟨v3, vs3, d3, ds3, p3, q3, rfl, rfl, rfl, h3, r3⟩ := trodAll_cons r2
  obtain ⟨rfl, rfl, rfl⟩ := trodAll_nil r3
  obtain rfl : args = #[v0, v1, v2, v3] := by cases args; simp_all
  obtain ⟨rfl, rfl⟩ := trodVars_none hV
  have lt0 : ∀ x ∈ p0, x.block < W.heap.size := by obtain ⟨m, hm⟩ := h0; exact DataW.trod_lt m _ _ _ hm
  obtain ⟨a0, len0, cap0, z0, rfl, w0⟩ := open_codes (hval 0 22 v0 rfl rfl) h0
  have lt1 : ∀ x ∈ p1, x.block < W.heap.size := by obtain ⟨m, hm⟩ := h1; exact DataW.trod_lt m _ _ _ hm
  obtain ⟨x1, rfl, b1⟩ := open_V (hval 1 24 v1 rfl rfl) h1
  have lt2 : ∀ x ∈ p2, x.block < W.heap.size := by obtain ⟨m, hm⟩ := h2; exact DataW.trod_lt m _ _ _ hm
  obtain ⟨x2, rfl, b2⟩ := open_V (hval 2 24 v2 rfl rfl) h2
  have lt3 : ∀ x ∈ p3, x.block < W.heap.size := by obtain ⟨m, hm⟩ := h3; exact DataW.trod_lt m _ _ _ hm
  obtain ⟨x3, rfl, b3⟩ := open_V (hval 3 24 v3 rfl rfl) h3
  clear hA0 hval0
  refine (walk a0 len0 cap0 z0 x1 x2 x3 W w0 b1 b2 b3).mono fun e W' ⟨he, bel⟩ => ?_
  subst he
  exact ⟨_, rfl, _, _, _, [], _, [], hW', trodAll_mk1 (shut_bool Try.underlying4 _), (trodAll_cons_mk (Below.trod laidOut (by kernel_rfl) (of_decide_eq_true (by kernel_rfl)) h0 bel lt0) (trodAll_cons_mk (Below.trod laidOut (by kernel_rfl) (of_decide_eq_true (by kernel_rfl)) h1 bel lt1) (trodAll_cons_mk (Below.trod laidOut (by kernel_rfl) (of_decide_eq_true (by kernel_rfl)) h2 bel lt2) (trodAll_cons_mk (Below.trod laidOut (by kernel_rfl) (of_decide_eq_true (by kernel_rfl)) h3 bel lt3) trodAll_mk0)))), rfl, bel.frame _, fun h => by cases h⟩

theorem over : Rows.valueComparesRow.holds Try.pinned (OpenSpec.ofChange Rows.valueComparesSpec) :=
  OpenClaim.holds_of_wide 4 Try.f4 rfl rfl rfl rfl rfl rfl rfl ⟨rfl, rfl, rfl, rfl, rfl⟩ rfl rfl rfl rfl rfl (by kernel_rfl) Try.func4 (by kernel_rfl)
    (of_decide_eq_true (by kernel_rfl)) (by unfold Func.isWrapper; first | (rw [if_pos (by decide +kernel)]; kernel_rfl) | (rw [if_neg (by decide +kernel)]; exact ⟨rfl, rfl⟩))
    (fun os started H enc _ => lifted os started H enc)
theorem proved : Rows.ValueComparesSaid := over
end Compares
end Go.Proofs.Ythlhpjickkhjfaa
