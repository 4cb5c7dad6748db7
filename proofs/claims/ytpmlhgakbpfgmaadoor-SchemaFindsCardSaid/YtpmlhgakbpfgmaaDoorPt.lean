/- The contracts of predicate.validComparison and validNode. -/
import Derived.Test.YtpmlhgakbpfgmaaDoorPp
import Derived.Test.YtpmlhgakbpfgmaaDoorPb
import Derived.Test.YtpmlhgakbpfgmaaDoorPh
set_option linter.unusedSimpArgs false
set_option linter.unusedVariables false
namespace Go.Proofs.YtpmlhgakbpfgmaaDoor
open Go.RowKit

theorem fn_neq_nil (f : Fn) (x y : Array Value) (w : World) : (binOp .neq 123 (.func f x y) .nilFunc).run Tryd.prog w = .ok (.bool true) w := by
  simp only [binOp]
  simp [Op.equal, Op.maxDepth, eqin_fn 9999 Tryd.underlying123 f x y w]
theorem nil_neq_nil (w : World) : (binOp .neq 123 .nilFunc .nilFunc).run Tryd.prog w = .ok (.bool false) w := by
  simp only [binOp]
  simp [Op.equal, Op.maxDepth, eqin_nil 9999 Tryd.underlying123 w]
set_option maxHeartbeats 4000000 in
set_option maxRecDepth 100000 in
theorem validComparison_calls (Sc Sp : Nat → Prop) (vc vp : Value) (cols par : List Int) (p : Pr) (sa : Option Addr) (sn sc : Nat) (w : World) (hc : IntsAt Sc w vc cols) (hq : IntsAt Sp w vp par) :
    Calls Tryd.prog 85 #[p.val (.slice sa sn sc), vc, vp] w (BoolG (comparesB cols par p.cmp p.l p.r) w) := by
  have mx := mixed
  obtain ⟨W, hW⟩ : ∃ W, W = w.alloc (pBlock p (.slice sa sn sc) 60) := ⟨_, rfl⟩
  have hg : Gro w W := by rw [hW]; exact (Gro.refl w).alloc _
  have HBX : Hid (PBox W w.heap.size p (.slice sa sn sc)) := by show PBox _ _ _ _; rw [hW]; exact PBox.new w p _ _
  have HC := Lib.hid (hc.later hg.below)
  have HQ := Lib.hid (hq.later hg.below)
  obtain ⟨ca, cc, rfl, -⟩ := hc.slice
  obtain ⟨qa, qc, rfl, -⟩ := hq.slice
  clear hc hq
  generalize cols.length = cn at HC HQ ⊢
  generalize par.length = qn at HC HQ ⊢
  have HG := Lib.hid hg
  have HW := Lib.hid hW
  clear hg hW
  obtain ⟨op, cmp, ⟨lk, li, ⟨lvk, lvn, lvt⟩⟩, ⟨rk, ri, ⟨rvk, rvn, rvt⟩⟩, args⟩ := p
  replace HW : Hid (W = w.alloc (.cells #[.int .i64 op, .int .i64 cmp, .int .i64 lk, .int .i64 li, .int .i64 lvk, .int .i64 lvn, .string lvt, .int .i64 rk, .int .i64 ri, .int .i64 rvk, .int .i64 rvn, .string rvt, .slice sa sn sc] 60)) := HW.out
  obtain ⟨l, b0, b1, b2, b3, b4, b5, b6, b7, b8, b9, b10, b11, b12⟩ := HBX.out
  simp only [Pr.op, Pr.cmp, Pr.l, Pr.r, Pr.args] at b0 b1 b2 b3 b4 b5 b6 b7 b8 b9 b10 b11 b12
  obtain ⟨res, hres⟩ : ∃ res, comparesB cols par cmp ⟨lk, li, ⟨lvk, lvn, lvt⟩⟩ ⟨rk, ri, ⟨rvk, rvn, rvt⟩⟩ = res := ⟨_, rfl⟩
  show Calls _ _ #[.agg #[.int .i64 op, .int .i64 cmp, .int .i64 lk, .int .i64 li, .int .i64 lvk, .int .i64 lvn, .string lvt, .int .i64 rk, .int .i64 ri, .int .i64 rvk, .int .i64 rvn, .string rvt, .slice sa sn sc], .slice ca cn cc, .slice qa qn qc] _ (BoolG (comparesB cols par cmp ⟨lk, li, ⟨lvk, lvn, lvt⟩⟩ ⟨rk, ri, ⟨rvk, rvn, rvt⟩⟩) w)
  rw [hres]
  have HR : Hid (((decide (1 ≤ cmp) && decide (cmp ≤ 6)) && !decide (kindO cols par ⟨lk, li, ⟨lvk, lvn, lvt⟩⟩ = 0) && decide (kindO cols par ⟨lk, li, ⟨lvk, lvn, lvt⟩⟩ = kindO cols par ⟨rk, ri, ⟨rvk, rvn, rvt⟩⟩)) = res) := hres
  have HKL := Lib.hid (fun n os => kindOf_calls Sc Sp (.slice ca cn cc) (.slice qa qn qc) cols par ⟨lk, li, ⟨lvk, lvn, lvt⟩⟩ (Sort.grow (W.drewN n) os) (HC.out.later ((Gro.refl W).grown n os).below) (HQ.out.later ((Gro.refl W).grown n os).below))
  have HKR := Lib.hid (fun n os => kindOf_calls Sc Sp (.slice ca cn cc) (.slice qa qn qc) cols par ⟨rk, ri, ⟨rvk, rvn, rvt⟩⟩ (Sort.grow (W.drewN n) os) (HC.out.later ((Gro.refl W).grown n os).below) (HQ.out.later ((Gro.refl W).grown n os).below))
  clear hres HC HQ
  generalize kindO cols par ⟨lk, li, ⟨lvk, lvn, lvt⟩⟩ = x at HKL HR
  generalize kindO cols par ⟨rk, ri, ⟨rvk, rvn, rvt⟩⟩ = y at HKR HR
  go_enter Tryd.func85, Tryd.ntmps85
  go_wp2_with fail
  rw [← HW.out]
  refine wp_region_quiet_grown mx (by kernel_rfl) ?_
  repeat (go_big_quiet_step ((first | (go_at_call_of 87 lk; refine gro_calls (HKL.out _ _)) | (go_at_call_of 87 rk; refine gro_calls (HKR.out _ _)) | fail)))
  refine wpQuiet_nil ?_
  intro w2 hw2
  obtain ⟨⟨nq, osq⟩, hw3⟩ := hw2
  have hg2 : Gro W w2 := by rw [hw3]; exact (Gro.refl W).grown nq osq
  clear hw3
  obtain ⟨l, b0, b1, b2, b3, b4, b5, b6, b7, b8, b9, b10, b11, b12⟩ := HBX.out.later hg2.below
  simp only [Pr.op, Pr.cmp, Pr.l, Pr.r, Pr.args] at b0 b1 b2 b3 b4 b5 b6 b7 b8 b9 b10 b11 b12
  have HG2 := Lib.hid (HG.out.trans hg2)
  clear hg2 HBX HW HKL HKR HG
  generalize w.heap.size = gb at l b0 b1 b2 b3 b4 b5 b6 b7 b8 b9 b10 b11 b12 ⊢
  go_wp2_with fail
  refine (comparison_calls cmp w2).mono ?_
  rintro e w3 ⟨he, hg3⟩
  subst he
  have HG3 := Lib.hid (HG2.out.trans hg3)
  have hf1 := fn_neq_nil
  have hf2 := nil_neq_nil
  clear l b0 b1 b2 b3 b4 b5 b6 b7 b8 b9 b10 b11 b12 hg3
  by_cases hc : cmp < 1 ∨ 6 < cmp
  · have HX : Hid (false = res) := by
      show _ = _; rw [← HR.out]
      rcases hc with h | h
      · rw [decide_eq_false (p := 1 ≤ cmp) (by omega)]; rfl
      · rw [decide_eq_false (p := cmp ≤ 6) (by omega), Bool.and_false]; rfl
    rw [fn_none hc]
    clear hc HR
    go_wp2
    go_ret
    exact boolg HX.out HG3.out
  · have HRR : Hid ((!decide (x = 0) && decide (x = y)) = res) := by show _ = _; rw [← HR.out, decide_eq_true (p := 1 ≤ cmp) (by omega), decide_eq_true (p := cmp ≤ 6) (by omega)]; rfl
    have h6 : cmp = 1 ∨ cmp = 2 ∨ cmp = 3 ∨ cmp = 4 ∨ cmp = 5 ∨ cmp = 6 := by omega
    clear hc HR
    by_cases hx : x = 0
    · have HX : Hid (false = res) := by show _ = _; rw [← HRR.out, decide_eq_true hx]; rfl
      have hx1 : (x == 0) = true := by simpa using hx
      rcases h6 with rfl | rfl | rfl | rfl | rfl | rfl
      all_goals
        go_wp2
        go_ret
        exact boolg HX.out HG3.out
    · have HX : Hid (decide (x = y) = res) := by show _ = _; rw [← HRR.out, decide_eq_false hx]; rfl
      have hx1 : (x == 0) = false := by simpa using hx
      rcases h6 with rfl | rfl | rfl | rfl | rfl | rfl
      all_goals
        go_wp2
        go_ret
        exact boolg (by rw [← HX.out]; first | rfl | (rw [Bool.eq_iff_iff]; simp [hx])) HG3.out
set_option maxHeartbeats 8000000 in
set_option maxRecDepth 100000 in
theorem validNode_calls (Sc Sp : Nat → Prop) (vc vp : Value) (cols par : List Int) (p : Pr) (sa : Option Addr) (sn sc : Nat) (w : World) (hs : Shapes w) (hc : IntsAt Sc w vc cols) (hq : IntsAt Sp w vp par) :
    Calls Tryd.prog 80 #[p.val (.slice sa sn sc), vc, vp] w (BoolG (nodeB cols par p.op p.cmp p.l p.r sn) w) := by
  have mx := mixed
  obtain ⟨W, hW⟩ : ∃ W, W = w.alloc (pBlock p (.slice sa sn sc) 60) := ⟨_, rfl⟩
  have hg : Gro w W := by rw [hW]; exact (Gro.refl w).alloc _
  have HBX : Hid (PBox W w.heap.size p (.slice sa sn sc)) := by show PBox _ _ _ _; rw [hW]; exact PBox.new w p _ _
  have HS := Lib.hid (hs.later hg.below)
  have HCQ : Hid (∀ w', Below W.heap.size W w' → IntsAt Sc w' vc cols ∧ IntsAt Sp w' vp par) := fun w' hw => ⟨(hc.later hg.below).later hw, (hq.later hg.below).later hw⟩
  have HVC : Hid (∀ w', Below W.heap.size W w' → Calls Tryd.prog 85 #[p.val (.slice sa sn sc), vc, vp] w' (BoolG (comparesB cols par p.cmp p.l p.r) w')) := fun w' hw => validComparison_calls Sc Sp vc vp cols par p sa sn sc w' (HCQ.out w' hw).1 (HCQ.out w' hw).2
  obtain ⟨ca, cc, rfl, -⟩ := hc.slice
  obtain ⟨qa, qc, rfl, -⟩ := hq.slice
  clear hc hq hs HCQ
  have HG := Lib.hid hg
  have HW := Lib.hid hW
  clear hg hW
  obtain ⟨op, cmp, ⟨lk, li, ⟨lvk, lvn, lvt⟩⟩, ⟨rk, ri, ⟨rvk, rvn, rvt⟩⟩, args⟩ := p
  replace HW : Hid (W = w.alloc (.cells #[.int .i64 op, .int .i64 cmp, .int .i64 lk, .int .i64 li, .int .i64 lvk, .int .i64 lvn, .string lvt, .int .i64 rk, .int .i64 ri, .int .i64 rvk, .int .i64 rvn, .string rvt, .slice sa sn sc] 60)) := HW.out
  replace HVC : Hid (∀ w', Below W.heap.size W w' → Calls Tryd.prog 85 #[.agg #[.int .i64 op, .int .i64 cmp, .int .i64 lk, .int .i64 li, .int .i64 lvk, .int .i64 lvn, .string lvt, .int .i64 rk, .int .i64 ri, .int .i64 rvk, .int .i64 rvn, .string rvt, .slice sa sn sc], .slice ca cols.length cc, .slice qa par.length qc] w' (BoolG (comparesB cols par cmp ⟨lk, li, ⟨lvk, lvn, lvt⟩⟩ ⟨rk, ri, ⟨rvk, rvn, rvt⟩⟩) w')) := HVC.out
  obtain ⟨l, b0, b1, b2, b3, b4, b5, b6, b7, b8, b9, b10, b11, b12⟩ := HBX.out
  simp only [Pr.op, Pr.cmp, Pr.l, Pr.r, Pr.args] at b0 b1 b2 b3 b4 b5 b6 b7 b8 b9 b10 b11 b12
  obtain ⟨res, hres⟩ : ∃ res, nodeB cols par op cmp ⟨lk, li, ⟨lvk, lvn, lvt⟩⟩ ⟨rk, ri, ⟨rvk, rvn, rvt⟩⟩ sn = res := ⟨_, rfl⟩
  show Calls _ _ #[.agg #[.int .i64 op, .int .i64 cmp, .int .i64 lk, .int .i64 li, .int .i64 lvk, .int .i64 lvn, .string lvt, .int .i64 rk, .int .i64 ri, .int .i64 rvk, .int .i64 rvn, .string rvt, .slice sa sn sc], .slice ca cols.length cc, .slice qa par.length qc] _ (BoolG (nodeB cols par op cmp ⟨lk, li, ⟨lvk, lvn, lvt⟩⟩ ⟨rk, ri, ⟨rvk, rvn, rvt⟩⟩ sn) w)
  rw [hres]
  have HR := Lib.hid hres
  have HPE := Lib.hid (plainB_eq cmp lk li lvk lvn rk ri rvk rvn lvt rvt)
  have he1 := fun w => eql_O lk li lvk lvn 0 0 0 0 lvt ⟨#[]⟩ w
  have he2 := fun w => eql_O rk ri rvk rvn 0 0 0 0 rvt ⟨#[]⟩ w
  generalize eqO ⟨lk, li, ⟨lvk, lvn, lvt⟩⟩ ⟨0, 0, ⟨0, 0, ⟨#[]⟩⟩⟩ = ex at he1 HPE
  generalize eqO ⟨rk, ri, ⟨rvk, rvn, rvt⟩⟩ ⟨0, 0, ⟨0, 0, ⟨#[]⟩⟩⟩ = ey at he2 HPE
  generalize cols.length = cn at HVC ⊢
  generalize par.length = qn at HVC ⊢
  clear hres
  have s00 := HS.out.l
  by_cases hop : op < 1 ∨ 6 < op
  · have HX : Hid (false = res) := by show _ = _; rw [← HR.out]; unfold nodeB; rw [if_neg (by omega), if_neg (by omega), if_neg (by omega), if_neg (by omega)]
    clear HVC he1 he2
    rcases hop with h | h
    · have hd : decide (op < 1) = true := by simpa using h
      go_enter Tryd.func80, Tryd.ntmps80
      go_wp2
      go_ret
      rw [← HW.out]
      exact boolg HX.out HG.out
    · have hd : decide (op < 1) = false := by simp; omega
      have hd6 : decide (6 < op) = true := by simpa using h
      go_enter Tryd.func80, Tryd.ntmps80
      go_wp2
      go_ret
      rw [← HW.out]
      exact boolg HX.out HG.out
  have h6 : op = 1 ∨ op = 2 ∨ op = 3 ∨ op = 4 ∨ op = 5 ∨ op = 6 := by omega
  clear hop
  rcases h6 with rfl | rfl | rfl | rfl | rfl | rfl
  · have s0 : W.cell? ⟨0, 3, none⟩ = some (.bool false) := HS.out.b 1 (by omega)
    have s1 : W.cell? ⟨0, 4, none⟩ = some (.int .i64 0) := HS.out.f 1 (by omega)
    have s2 : W.cell? ⟨0, 5, none⟩ = some (.int .i64 0) := HS.out.m 1 (by omega)
    have HGA : Hid (Gro w (W.alloc (.cells #[.bool false, .int .i64 0, .int .i64 0] 119))) := HG.out.alloc _
    have HBL : Hid (Below W.heap.size W (W.alloc (.cells #[.bool false, .int .i64 0, .int .i64 0] 119))) := (Below.refl _ _).alloc (Nat.le_refl _) _
    have hWe := HW.out
    clear HW HS HG HBX
    subst hWe
    by_cases hz : sn = 0
    · subst hz
      have HRR : Hid ((decide (cmp = 0) && ex && ey) = res) := by show _ = _; rw [← HR.out, ← HPE.out]; unfold nodeB; rw [if_pos (by omega)]; rfl
      clear HVC
      by_cases hcm : cmp = 0
      · subst hcm
        cases ex with
        | false =>
          have HX : Hid (false = res) := by show _ = _; rw [← HRR.out]; rfl
          go_enter Tryd.func80, Tryd.ntmps80
          go_wp2
          go_ret
          exact boolg HX.out HGA.out
        | true =>
          have HX : Hid (ey = res) := by show _ = _; rw [← HRR.out]; rfl
          go_enter Tryd.func80, Tryd.ntmps80
          go_wp2
          go_ret
          exact boolg HX.out HGA.out
      · have hcm1 : (cmp == 0) = false := by simpa using hcm
        have HX : Hid (false = res) := by show _ = _; rw [← HRR.out, decide_eq_false hcm]; rfl
        clear he1 he2
        go_enter Tryd.func80, Tryd.ntmps80
        go_wp2
        go_ret
        exact boolg HX.out HGA.out
    · have hd : decide ((sn : Int) < 0) = false := by simp
      have hd1 : decide ((0 : Int) < (sn : Int)) = true := by simp; omega
      have HX : Hid (false = res) := by show _ = _; rw [← HR.out]; unfold nodeB; rw [if_pos (by omega), decide_eq_false hz]; rfl
      clear HVC he1 he2
      go_enter Tryd.func80, Tryd.ntmps80
      go_wp2
      go_ret
      exact boolg HX.out HGA.out
  · have s0 : W.cell? ⟨0, 6, none⟩ = some (.bool false) := HS.out.b 2 (by omega)
    have s1 : W.cell? ⟨0, 7, none⟩ = some (.int .i64 0) := HS.out.f 2 (by omega)
    have s2 : W.cell? ⟨0, 8, none⟩ = some (.int .i64 0) := HS.out.m 2 (by omega)
    have HGA : Hid (Gro w (W.alloc (.cells #[.bool false, .int .i64 0, .int .i64 0] 119))) := HG.out.alloc _
    have HBL : Hid (Below W.heap.size W (W.alloc (.cells #[.bool false, .int .i64 0, .int .i64 0] 119))) := (Below.refl _ _).alloc (Nat.le_refl _) _
    have hWe := HW.out
    clear HW HS HG HBX
    subst hWe
    by_cases hz : sn = 0
    · subst hz
      have HRR : Hid ((decide (cmp = 0) && ex && ey) = res) := by show _ = _; rw [← HR.out, ← HPE.out]; unfold nodeB; rw [if_pos (by omega)]; rfl
      clear HVC
      by_cases hcm : cmp = 0
      · subst hcm
        cases ex with
        | false =>
          have HX : Hid (false = res) := by show _ = _; rw [← HRR.out]; rfl
          go_enter Tryd.func80, Tryd.ntmps80
          go_wp2
          go_ret
          exact boolg HX.out HGA.out
        | true =>
          have HX : Hid (ey = res) := by show _ = _; rw [← HRR.out]; rfl
          go_enter Tryd.func80, Tryd.ntmps80
          go_wp2
          go_ret
          exact boolg HX.out HGA.out
      · have hcm1 : (cmp == 0) = false := by simpa using hcm
        have HX : Hid (false = res) := by show _ = _; rw [← HRR.out, decide_eq_false hcm]; rfl
        clear he1 he2
        go_enter Tryd.func80, Tryd.ntmps80
        go_wp2
        go_ret
        exact boolg HX.out HGA.out
    · have hd : decide ((sn : Int) < 0) = false := by simp
      have hd1 : decide ((0 : Int) < (sn : Int)) = true := by simp; omega
      have HX : Hid (false = res) := by show _ = _; rw [← HR.out]; unfold nodeB; rw [if_pos (by omega), decide_eq_false hz]; rfl
      clear HVC he1 he2
      go_enter Tryd.func80, Tryd.ntmps80
      go_wp2
      go_ret
      exact boolg HX.out HGA.out
  · have s0 : W.cell? ⟨0, 9, none⟩ = some (.bool true) := HS.out.b 3 (by omega)
    have s1 : W.cell? ⟨0, 10, none⟩ = some (.int .i64 0) := HS.out.f 3 (by omega)
    have s2 : W.cell? ⟨0, 11, none⟩ = some (.int .i64 0) := HS.out.m 3 (by omega)
    have HGA : Hid (Gro w (W.alloc (.cells #[.bool true, .int .i64 0, .int .i64 0] 119))) := HG.out.alloc _
    have HBL : Hid (Below W.heap.size W (W.alloc (.cells #[.bool true, .int .i64 0, .int .i64 0] 119))) := (Below.refl _ _).alloc (Nat.le_refl _) _
    have hWe := HW.out
    clear HW HS HG HBX
    subst hWe
    by_cases hz : sn = 0
    · subst hz
      have HRR : Hid (comparesB cols par cmp ⟨lk, li, ⟨lvk, lvn, lvt⟩⟩ ⟨rk, ri, ⟨rvk, rvn, rvt⟩⟩ = res) := by show _ = _; rw [← HR.out]; unfold nodeB; rw [if_neg (by omega), if_pos rfl]; rfl
      have HVX := Lib.hid (HVC.out _ HBL.out)
      clear HVC he1 he2
      generalize comparesB cols par cmp ⟨lk, li, ⟨lvk, lvn, lvt⟩⟩ ⟨rk, ri, ⟨rvk, rvn, rvt⟩⟩ = q at HVX HRR
      go_enter Tryd.func80, Tryd.ntmps80
      go_wp2_with fail
      refine HVX.out.mono ?_
      rintro e w3 ⟨rfl, hg3⟩
      have HG3 := Lib.hid (HGA.out.trans hg3)
      clear hg3
      go_wp2
      go_ret
      exact boolg HRR.out HG3.out
    · have hd : decide ((sn : Int) < 0) = false := by simp
      have hd1 : decide ((0 : Int) < (sn : Int)) = true := by simp; omega
      have HX : Hid (false = res) := by show _ = _; rw [← HR.out]; unfold nodeB; rw [if_neg (by omega), if_pos rfl, decide_eq_false hz]; rfl
      clear HVC he1 he2
      go_enter Tryd.func80, Tryd.ntmps80
      go_wp2
      go_ret
      exact boolg HX.out HGA.out
  · have s0 : W.cell? ⟨0, 12, none⟩ = some (.bool false) := HS.out.b 4 (by omega)
    have s1 : W.cell? ⟨0, 13, none⟩ = some (.int .i64 0) := HS.out.f 4 (by omega)
    have s2 : W.cell? ⟨0, 14, none⟩ = some (.int .i64 24) := HS.out.m 4 (by omega)
    have HGA : Hid (Gro w (W.alloc (.cells #[.bool false, .int .i64 0, .int .i64 24] 119))) := HG.out.alloc _
    have HBL : Hid (Below W.heap.size W (W.alloc (.cells #[.bool false, .int .i64 0, .int .i64 24] 119))) := (Below.refl _ _).alloc (Nat.le_refl _) _
    have hWe := HW.out
    clear HW HS HG HBX
    subst hWe
    have hd : decide ((sn : Int) < 0) = false := by simp
    by_cases hz : sn ≤ 24
    · have hd1 : decide ((24 : Int) < (sn : Int)) = false := by simp; omega
      have HZ := Lib.hid hz
      clear hz
      have HRR : Hid ((decide (cmp = 0) && ex && ey) = res) := by show _ = _; rw [← HR.out, ← HPE.out]; unfold nodeB; rw [if_neg (by omega), if_neg (by omega), if_pos (by omega), decide_eq_true HZ.out, Bool.true_and]
      clear HVC
      by_cases hcm : cmp = 0
      · subst hcm
        cases ex with
        | false =>
          have HX : Hid (false = res) := by show _ = _; rw [← HRR.out]; rfl
          go_enter Tryd.func80, Tryd.ntmps80
          go_wp2
          go_ret
          exact boolg HX.out HGA.out
        | true =>
          have HX : Hid (ey = res) := by show _ = _; rw [← HRR.out]; rfl
          go_enter Tryd.func80, Tryd.ntmps80
          go_wp2
          go_ret
          exact boolg HX.out HGA.out
      · have hcm1 : (cmp == 0) = false := by simpa using hcm
        have HX : Hid (false = res) := by show _ = _; rw [← HRR.out, decide_eq_false hcm]; rfl
        clear he1 he2
        go_enter Tryd.func80, Tryd.ntmps80
        go_wp2
        go_ret
        exact boolg HX.out HGA.out
    · have hd1 : decide ((24 : Int) < (sn : Int)) = true := by simp; omega
      have HX : Hid (false = res) := by show _ = _; rw [← HR.out]; unfold nodeB; rw [if_neg (by omega), if_neg (by omega), if_pos (by omega), decide_eq_false hz]; rfl
      clear HVC he1 he2
      go_enter Tryd.func80, Tryd.ntmps80
      go_wp2
      go_ret
      exact boolg HX.out HGA.out
  · have s0 : W.cell? ⟨0, 15, none⟩ = some (.bool false) := HS.out.b 5 (by omega)
    have s1 : W.cell? ⟨0, 16, none⟩ = some (.int .i64 0) := HS.out.f 5 (by omega)
    have s2 : W.cell? ⟨0, 17, none⟩ = some (.int .i64 24) := HS.out.m 5 (by omega)
    have HGA : Hid (Gro w (W.alloc (.cells #[.bool false, .int .i64 0, .int .i64 24] 119))) := HG.out.alloc _
    have HBL : Hid (Below W.heap.size W (W.alloc (.cells #[.bool false, .int .i64 0, .int .i64 24] 119))) := (Below.refl _ _).alloc (Nat.le_refl _) _
    have hWe := HW.out
    clear HW HS HG HBX
    subst hWe
    have hd : decide ((sn : Int) < 0) = false := by simp
    by_cases hz : sn ≤ 24
    · have hd1 : decide ((24 : Int) < (sn : Int)) = false := by simp; omega
      have HZ := Lib.hid hz
      clear hz
      have HRR : Hid ((decide (cmp = 0) && ex && ey) = res) := by show _ = _; rw [← HR.out, ← HPE.out]; unfold nodeB; rw [if_neg (by omega), if_neg (by omega), if_pos (by omega), decide_eq_true HZ.out, Bool.true_and]
      clear HVC
      by_cases hcm : cmp = 0
      · subst hcm
        cases ex with
        | false =>
          have HX : Hid (false = res) := by show _ = _; rw [← HRR.out]; rfl
          go_enter Tryd.func80, Tryd.ntmps80
          go_wp2
          go_ret
          exact boolg HX.out HGA.out
        | true =>
          have HX : Hid (ey = res) := by show _ = _; rw [← HRR.out]; rfl
          go_enter Tryd.func80, Tryd.ntmps80
          go_wp2
          go_ret
          exact boolg HX.out HGA.out
      · have hcm1 : (cmp == 0) = false := by simpa using hcm
        have HX : Hid (false = res) := by show _ = _; rw [← HRR.out, decide_eq_false hcm]; rfl
        clear he1 he2
        go_enter Tryd.func80, Tryd.ntmps80
        go_wp2
        go_ret
        exact boolg HX.out HGA.out
    · have hd1 : decide ((24 : Int) < (sn : Int)) = true := by simp; omega
      have HX : Hid (false = res) := by show _ = _; rw [← HR.out]; unfold nodeB; rw [if_neg (by omega), if_neg (by omega), if_pos (by omega), decide_eq_false hz]; rfl
      clear HVC he1 he2
      go_enter Tryd.func80, Tryd.ntmps80
      go_wp2
      go_ret
      exact boolg HX.out HGA.out
  · have s0 : W.cell? ⟨0, 18, none⟩ = some (.bool false) := HS.out.b 6 (by omega)
    have s1 : W.cell? ⟨0, 19, none⟩ = some (.int .i64 1) := HS.out.f 6 (by omega)
    have s2 : W.cell? ⟨0, 20, none⟩ = some (.int .i64 1) := HS.out.m 6 (by omega)
    have HGA : Hid (Gro w (W.alloc (.cells #[.bool false, .int .i64 1, .int .i64 1] 119))) := HG.out.alloc _
    have HBL : Hid (Below W.heap.size W (W.alloc (.cells #[.bool false, .int .i64 1, .int .i64 1] 119))) := (Below.refl _ _).alloc (Nat.le_refl _) _
    have hWe := HW.out
    clear HW HS HG HBX
    subst hWe
    by_cases hz : sn = 1
    · subst hz
      have HRR : Hid ((decide (cmp = 0) && ex && ey) = res) := by show _ = _; rw [← HR.out, ← HPE.out]; unfold nodeB; rw [if_neg (by omega), if_neg (by omega), if_neg (by omega), if_pos rfl]; rfl
      clear HVC
      by_cases hcm : cmp = 0
      · subst hcm
        cases ex with
        | false =>
          have HX : Hid (false = res) := by show _ = _; rw [← HRR.out]; rfl
          go_enter Tryd.func80, Tryd.ntmps80
          go_wp2
          go_ret
          exact boolg HX.out HGA.out
        | true =>
          have HX : Hid (ey = res) := by show _ = _; rw [← HRR.out]; rfl
          go_enter Tryd.func80, Tryd.ntmps80
          go_wp2
          go_ret
          exact boolg HX.out HGA.out
      · have hcm1 : (cmp == 0) = false := by simpa using hcm
        have HX : Hid (false = res) := by show _ = _; rw [← HRR.out, decide_eq_false hcm]; rfl
        clear he1 he2
        go_enter Tryd.func80, Tryd.ntmps80
        go_wp2
        go_ret
        exact boolg HX.out HGA.out
    · by_cases hz0 : sn = 0
      · subst hz0
        have HX : Hid (false = res) := by show _ = _; rw [← HR.out]; unfold nodeB; rw [if_neg (by omega), if_neg (by omega), if_neg (by omega), if_pos rfl]; rfl
        clear HVC he1 he2
        go_enter Tryd.func80, Tryd.ntmps80
        go_wp2
        go_ret
        exact boolg HX.out HGA.out
      · have hd : decide ((sn : Int) < 1) = false := by simp; omega
        have hd1 : decide ((1 : Int) < (sn : Int)) = true := by simp; omega
        have HX : Hid (false = res) := by show _ = _; rw [← HR.out]; unfold nodeB; rw [if_neg (by omega), if_neg (by omega), if_neg (by omega), if_pos rfl, decide_eq_false hz]; rfl
        clear HVC he1 he2
        go_enter Tryd.func80, Tryd.ntmps80
        go_wp2
        go_ret
        exact boolg HX.out HGA.out
end Go.Proofs.YtpmlhgakbpfgmaaDoor
/- The contract of predicate.valid. -/
set_option linter.unusedSimpArgs false
set_option linter.unusedVariables false
namespace Go.Proofs.YtpmlhgakbpfgmaaDoor
open Go.RowKit

/-- The blocks that the closure of valid has captured. -/
structure CapsV (w : World) (gr gq : Nat) (vc vp : Value) : Prop where
  l0 : gr < w.heap.size
  l1 : gq < w.heap.size
  c0 : w.cell? ⟨gr, 0, none⟩ = some vc
  c1 : w.cell? ⟨gq, 0, none⟩ = some vp
theorem CapsV.later {w w' : World} {gr gq : Nat} {vc vp : Value} (h : CapsV w gr gq vc vp) (hw : Below w.heap.size w w') : CapsV w' gr gq vc vp :=
  ⟨Nat.lt_of_lt_of_le h.l0 hw.size, Nat.lt_of_lt_of_le h.l1 hw.size, (hw.cell (p := ⟨gr, 0, none⟩) h.l0).trans h.c0, (hw.cell (p := ⟨gq, 0, none⟩) h.l1).trans h.c1⟩
def ValidAt (S Sc Sp : Nat → Prop) (vc vp : Value) (cols par : List Int) (k : Nat) (p : Pr) : Prop :=
  ∀ (s : Value) (w : World), Shapes w → IntsAt Sc w vc cols → IntsAt Sp w vp par → PrIn S w k s p.args → Calls Tryd.prog 72 #[p.val s, vc, vp] w (BoolG (validA cols par p) w)
set_option maxRecDepth 100000 in
theorem valid1_calls {S Sc Sp : Nat → Prop} {vc vp : Value} {cols par : List Int} {k : Nat} (p : Pr) (ih : ValidAt S Sc Sp vc vp cols par k p) (s : Value) (gr gq : Nat) (w : World) (hk : CapsV w gr gq vc vp) (hs : Shapes w) (ha : IntsAt Sc w vc cols) (hb : IntsAt Sp w vp par) (hp : PrIn S w k s p.args) :
    Calls Tryd.prog 82 #[p.val s, .pointer (some ⟨gr, 0, none⟩), .pointer (some ⟨gq, 0, none⟩)] w (BoolG (!validA cols par p) w) := by
  obtain ⟨W, hW⟩ : ∃ W, W = w.alloc (pBlock p s 60) := ⟨_, rfl⟩
  have hg : Gro w W := by rw [hW]; exact (Gro.refl w).alloc _
  have hB : PBox W w.heap.size p s := by rw [hW]; exact PBox.new w p s _
  have HI := Lib.hid (ih s W (hs.later hg.below) (ha.later hg.below) (hb.later hg.below) (hp.later hg.below))
  obtain ⟨q, hq⟩ : ∃ q, validA cols par p = q := ⟨_, rfl⟩
  rw [hq] at HI ⊢
  obtain ⟨a1, k1, rfl, -⟩ := ha.slice
  obtain ⟨a2, k2, rfl, -⟩ := hb.slice
  obtain ⟨h0, h1, c0, c1⟩ := hk.later hg.below
  obtain ⟨l, b0, b1, b2, b3, b4, b5, b6, b7, b8, b9, b10, b11, b12⟩ := hB
  have HG := Lib.hid hg
  subst hW
  clear hg hq ih ha hb hp hk hs
  go_enter Tryd.func82, Tryd.ntmps82
  go_wp2_with fail
  refine HI.out.mono ?_
  rintro e w1 ⟨rfl, hg1⟩
  have HG1 := Lib.hid (HG.out.trans hg1)
  clear hg1
  go_wp2
  go_ret
  exact boolg rfl HG1.out
set_option maxHeartbeats 4000000 in
set_option maxRecDepth 100000 in
theorem valid_step (S Sc Sp : Nat → Prop) (vc vp : Value) (cols par : List Int) (k : Nat) (p : Pr) (ih : ∀ q ∈ p.args, ValidAt S Sc Sp vc vp cols par k q) : ValidAt S Sc Sp vc vp cols par (k + 1) p := by
  intro s w hs hc hq hp
  have mx := mixed
  obtain ⟨ca, cc, rfl, -⟩ := hc.slice
  obtain ⟨qa, qc, rfl, -⟩ := hq.slice
  obtain ⟨sa, sc, rfl, hsl⟩ := hp.shape
  have HMK : Hid (validA cols par p = (nodeB cols par p.op p.cmp p.l p.r p.args.length && !badL cols par p.args)) := by
    show _ = _
    obtain ⟨op, cmp, l, r, args⟩ := p
    rw [validA]; rfl
  generalize hcn : cols.length = cn at hc hq ih ⊢
  generalize hqn : par.length = qn at hc hq ih ⊢
  obtain ⟨W, hW⟩ : ∃ W, W = ((w.alloc (pBlock p (.slice sa p.args.length sc) 60)).alloc (.cells #[.slice ca cn cc] 34)).alloc (.cells #[.slice qa qn qc] 34) := ⟨_, rfl⟩
  have hg : Gro w W := by rw [hW]; exact (((Gro.refl w).alloc _).alloc _).alloc _
  have HBX : Hid (PBox W w.heap.size p (.slice sa p.args.length sc)) := by
    show PBox _ _ _ _
    rw [hW]
    refine (PBox.new w p _ 60).later ?_
    exact ((Below.refl _ _).alloc (Nat.le_refl _) _).alloc (by simp) _
  have HCA : Hid (CapsV W (w.heap.size + 1) (w.heap.size + 1 + 1) (.slice ca cn cc) (.slice qa qn qc)) := by
    show CapsV _ _ _ _ _
    rw [hW]; exact ⟨by simp <;> omega, by simp <;> omega, by go_simp, by go_simp⟩
  have HS := Lib.hid (hs.later hg.below)
  have HC := Lib.hid (hc.later hg.below)
  have HQ := Lib.hid (hq.later hg.below)
  have HP := Lib.hid (hp.later hg.below)
  have HG := Lib.hid hg
  have HIH := Lib.hid ih
  have HW := Lib.hid hW
  have HN := Lib.hid (validNode_calls Sc Sp (.slice ca cn cc) (.slice qa qn qc) cols par p sa p.args.length sc W HS.out HC.out HQ.out)
  have hbad := fun w' (hb : Below W.heap.size W w') => contains_valid S k (fun p => !validA cols par p) (w.heap.size + 1) (w.heap.size + 1 + 1) (.slice sa p.args.length sc) p.args w' (HP.out.later hb) (fun q s w2 hb2 hr hm =>
    have hbb := hb.trans (hb2.mono hb.size)
    valid1_calls q (HIH.out q hm) s _ _ w2 (HCA.out.later hbb) (HS.out.later hbb) (HC.out.later hbb) (HQ.out.later hbb) hr)
  rw [← badL_any] at hbad
  have HBAD := Lib.hid hbad
  clear hp hg ih hW hs hc hq hbad hcn hqn
  obtain ⟨op, cmp, ⟨lk, li, ⟨lvk, lvn, lvt⟩⟩, ⟨rk, ri, ⟨rvk, rvn, rvt⟩⟩, args⟩ := p
  replace HW : Hid (W = ((w.alloc (.cells #[.int .i64 op, .int .i64 cmp, .int .i64 lk, .int .i64 li, .int .i64 lvk, .int .i64 lvn, .string lvt, .int .i64 rk, .int .i64 ri, .int .i64 rvk, .int .i64 rvn, .string rvt, .slice sa args.length sc] 60)).alloc (.cells #[.slice ca cn cc] 34)).alloc (.cells #[.slice qa qn qc] 34)) := HW.out
  replace HMK : Hid (validA cols par (.mk op cmp ⟨lk, li, ⟨lvk, lvn, lvt⟩⟩ ⟨rk, ri, ⟨rvk, rvn, rvt⟩⟩ args) = (nodeB cols par op cmp ⟨lk, li, ⟨lvk, lvn, lvt⟩⟩ ⟨rk, ri, ⟨rvk, rvn, rvt⟩⟩ args.length && !badL cols par args)) := HMK.out
  replace HN : Hid (Calls Tryd.prog 80 #[.agg #[.int .i64 op, .int .i64 cmp, .int .i64 lk, .int .i64 li, .int .i64 lvk, .int .i64 lvn, .string lvt, .int .i64 rk, .int .i64 ri, .int .i64 rvk, .int .i64 rvn, .string rvt, .slice sa args.length sc], .slice ca cn cc, .slice qa qn qc] W (BoolG (nodeB cols par op cmp ⟨lk, li, ⟨lvk, lvn, lvt⟩⟩ ⟨rk, ri, ⟨rvk, rvn, rvt⟩⟩ args.length) W)) := HN.out
  replace HBAD : Hid (∀ w', Below W.heap.size W w' → Calls Tryd.prog 81 #[.slice sa args.length sc, .func (.func 82) #[] #[.pointer (some ⟨w.heap.size + 1, 0, none⟩), .pointer (some ⟨w.heap.size + 1 + 1, 0, none⟩)]] w' (BoolG (badL cols par args) w')) := HBAD.out
  replace HBX : Hid (PBox W w.heap.size (.mk op cmp ⟨lk, li, ⟨lvk, lvn, lvt⟩⟩ ⟨rk, ri, ⟨rvk, rvn, rvt⟩⟩ args) (.slice sa args.length sc)) := HBX.out
  obtain ⟨res, hres⟩ : ∃ res, validA cols par (.mk op cmp ⟨lk, li, ⟨lvk, lvn, lvt⟩⟩ ⟨rk, ri, ⟨rvk, rvn, rvt⟩⟩ args) = res := ⟨_, rfl⟩
  show Calls _ _ #[.agg #[.int .i64 op, .int .i64 cmp, .int .i64 lk, .int .i64 li, .int .i64 lvk, .int .i64 lvn, .string lvt, .int .i64 rk, .int .i64 ri, .int .i64 rvk, .int .i64 rvn, .string rvt, .slice sa args.length sc], .slice ca cn cc, .slice qa qn qc] _ (BoolG (validA cols par (.mk op cmp ⟨lk, li, ⟨lvk, lvn, lvt⟩⟩ ⟨rk, ri, ⟨rvk, rvn, rvt⟩⟩ args)) w)
  rw [hres] at HMK ⊢
  generalize nodeB cols par op cmp ⟨lk, li, ⟨lvk, lvn, lvt⟩⟩ ⟨rk, ri, ⟨rvk, rvn, rvt⟩⟩ args.length = x at HN HMK
  generalize badL cols par args = y at HBAD HMK
  obtain ⟨l, b0, b1, b2, b3, b4, b5, b6, b7, b8, b9, b10, b11, b12⟩ := HBX.out
  simp only [Pr.op, Pr.cmp, Pr.l, Pr.r, Pr.args] at b0 b1 b2 b3 b4 b5 b6 b7 b8 b9 b10 b11 b12
  obtain ⟨k0, k1, k2, k3⟩ := HCA.out
  clear hres HC HQ HP HS HIH
  go_enter Tryd.func72, Tryd.ntmps72
  go_wp2_with fail
  rw [← HW.out]
  refine HN.out.mono ?_
  rintro e w2 ⟨rfl, hg2⟩
  obtain ⟨l, b0, b1, b2, b3, b4, b5, b6, b7, b8, b9, b10, b11, b12⟩ := HBX.out.later hg2.below
  simp only [Pr.op, Pr.cmp, Pr.l, Pr.r, Pr.args] at b0 b1 b2 b3 b4 b5 b6 b7 b8 b9 b10 b11 b12
  obtain ⟨k0, k1, k2, k3⟩ := HCA.out.later hg2.below
  have HC2 := Lib.hid (HBAD.out w2 hg2.below)
  have HG2 := Lib.hid (HG.out.trans hg2)
  clear hg2 HW HBX HCA HBAD HN HG
  generalize w.heap.size = gb at l b0 b1 b2 b3 b4 b5 b6 b7 b8 b9 b10 b11 b12 k0 k1 k2 k3 HC2 ⊢
  cases x with
  | false =>
    have HX : Hid (false = res) := HMK.out.symm
    go_wp2
    go_ret
    exact boolg HX.out HG2.out
  | true =>
    have HX : Hid ((!y) = res) := HMK.out.symm
    have hmf : ∀ (fn : Fn) (first cap : Array Value) (w : World), (Instr.makeFunc fn first cap).run Tryd.prog w = .ok (.func fn first cap) w := fun _ _ _ _ => rfl
    go_wp2_with fail
    refine HC2.out.mono ?_
    rintro e w3 ⟨rfl, hg3⟩
    have HG3 := Lib.hid (HG2.out.trans hg3)
    clear hg3
    go_wp2
    go_ret
    exact boolg HX.out HG3.out
theorem valid_at (S Sc Sp : Nat → Prop) (vc vp : Value) (cols par : List Int) : ∀ (k : Nat) (p : Pr), ValidAt S Sc Sp vc vp cols par k p
  | 0, p => fun s w hs hc hq hp => valid_step S Sc Sp vc vp cols par 0 p (fun q hq => by rw [hp.1] at hq; simp at hq) s w hs hc hq hp.deeper
  | k + 1, p => valid_step S Sc Sp vc vp cols par k p fun q _ => valid_at S Sc Sp vc vp cols par k q
end Go.Proofs.YtpmlhgakbpfgmaaDoor
