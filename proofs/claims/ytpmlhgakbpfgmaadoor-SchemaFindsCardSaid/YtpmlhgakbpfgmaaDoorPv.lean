/- The contracts of predicate.Check and of the reference's Check. -/
import Derived.Test.YtpmlhgakbpfgmaaDoorPt
import Derived.Test.YtpmlhgakbpfgmaaDoorPs
import Derived.Test.YtpmlhgakbpfgmaaDoorPl
set_option linter.unusedSimpArgs false
set_option linter.unusedVariables false
namespace Go.Proofs.YtpmlhgakbpfgmaaDoor
open Go.RowKit

set_option maxHeartbeats 4000000 in
set_option maxRecDepth 100000 in
theorem check_calls (S Sc Sp : Nat → Prop) (vc vp : Value) (cols par : List Int) (k : Nat) (p : Pr) (s : Value) (w : World) (hs : Shapes w) (hc : IntsAt Sc w vc cols) (hq : IntsAt Sp w vp par) (hp : PrIn S w k s p.args) :
    Calls Tryd.prog 53 #[vc, vp, p.val s] w (IntG (checkE cols par p) w) := by
  have mx := mixed
  obtain ⟨sa, sc, rfl, hsl⟩ := hp.shape
  obtain ⟨W, hW⟩ : ∃ W, W = w.alloc (pBlock p (.slice sa p.args.length sc) 60) := ⟨_, rfl⟩
  have hg : Gro w W := by rw [hW]; exact (Gro.refl w).alloc _
  have HBX : Hid (PBox W w.heap.size p (.slice sa p.args.length sc)) := by show PBox _ _ _ _; rw [hW]; exact PBox.new w p _ _
  have HG := Lib.hid hg
  have HW := Lib.hid hW
  have HIN : Hid (∀ w', Below W.heap.size W w' → IntsAt Sc w' vc cols ∧ IntsAt Sp w' vp par ∧ PrIn S w' k (.slice sa p.args.length sc) p.args ∧ Shapes w') := fun w' hw =>
    have hb := hg.below.trans (hw.mono hg.size)
    ⟨hc.later hb, hq.later hb, hp.later hb, hs.later hb⟩
  have HKC := Lib.hid (columnKinds_calls Sc vc cols W (HIN.out W (Below.refl _ _)).1)
  have HKP := Lib.hid (fun w' hw => columnKinds_calls Sp vp par w' (HIN.out w' hw).2.1)
  have HSP := Lib.hid (fun w' hw => spare_at S k p (.slice sa p.args.length sc) 24 8 8 w' (by omega) (by omega) rfl (by omega) (HIN.out w' hw).2.2.1)
  have HVA := Lib.hid (fun w' hw => valid_at S Sc Sp vc vp cols par k p (.slice sa p.args.length sc) w' (HIN.out w' hw).2.2.2 (HIN.out w' hw).1 (HIN.out w' hw).2.1 (HIN.out w' hw).2.2.1)
  obtain ⟨ca, cc, rfl, -⟩ := hc.slice
  obtain ⟨qa, qc, rfl, -⟩ := hq.slice
  clear hc hq hp hg hW hs
  generalize cols.length = cn at HIN HKC HKP HVA ⊢
  generalize par.length = qn at HIN HKC HKP HVA ⊢
  obtain ⟨res, hres⟩ : ∃ res, checkE cols par p = res := ⟨_, rfl⟩
  rw [hres]
  obtain ⟨op, cmp, ⟨lk, li, ⟨lvk, lvn, lvt⟩⟩, ⟨rk, ri, ⟨rvk, rvn, rvt⟩⟩, args⟩ := p
  replace HW : Hid (W = w.alloc (.cells #[.int .i64 op, .int .i64 cmp, .int .i64 lk, .int .i64 li, .int .i64 lvk, .int .i64 lvn, .string lvt, .int .i64 rk, .int .i64 ri, .int .i64 rvk, .int .i64 rvn, .string rvt, .slice sa args.length sc] 60)) := HW.out
  replace HBX : Hid (PBox W w.heap.size (.mk op cmp ⟨lk, li, ⟨lvk, lvn, lvt⟩⟩ ⟨rk, ri, ⟨rvk, rvn, rvt⟩⟩ args) (.slice sa args.length sc)) := HBX.out
  have HE : Hid ((if kindsB cols = false ∨ kindsB par = false then 1 else if 24 < countP (.mk op cmp ⟨lk, li, ⟨lvk, lvn, lvt⟩⟩ ⟨rk, ri, ⟨rvk, rvn, rvt⟩⟩ args) ∨ 8 < depthP (.mk op cmp ⟨lk, li, ⟨lvk, lvn, lvt⟩⟩ ⟨rk, ri, ⟨rvk, rvn, rvt⟩⟩ args) then 2 else if validR cols par (.mk op cmp ⟨lk, li, ⟨lvk, lvn, lvt⟩⟩ ⟨rk, ri, ⟨rvk, rvn, rvt⟩⟩ args) = false then 50 else 0) = res) := hres
  have HSM : Hid (¬ (24 < countP (.mk op cmp ⟨lk, li, ⟨lvk, lvn, lvt⟩⟩ ⟨rk, ri, ⟨rvk, rvn, rvt⟩⟩ args) ∨ 8 < depthP (.mk op cmp ⟨lk, li, ⟨lvk, lvn, lvt⟩⟩ ⟨rk, ri, ⟨rvk, rvn, rvt⟩⟩ args)) → validA cols par (.mk op cmp ⟨lk, li, ⟨lvk, lvn, lvt⟩⟩ ⟨rk, ri, ⟨rvk, rvn, rvt⟩⟩ args) = validR cols par (.mk op cmp ⟨lk, li, ⟨lvk, lvn, lvt⟩⟩ ⟨rk, ri, ⟨rvk, rvn, rvt⟩⟩ args)) := fun h => validA_small cols par (.mk op cmp ⟨lk, li, ⟨lvk, lvn, lvt⟩⟩ ⟨rk, ri, ⟨rvk, rvn, rvt⟩⟩ args) (by omega)
  clear hres
  have HNG := Lib.hid (spare_neg (.mk op cmp ⟨lk, li, ⟨lvk, lvn, lvt⟩⟩ ⟨rk, ri, ⟨rvk, rvn, rvt⟩⟩ args))
  replace HSP : Hid (∀ w', Below W.heap.size W w' → Calls Tryd.prog 71 #[.agg #[.int .i64 op, .int .i64 cmp, .int .i64 lk, .int .i64 li, .int .i64 lvk, .int .i64 lvn, .string lvt, .int .i64 rk, .int .i64 ri, .int .i64 rvk, .int .i64 rvn, .string rvt, .slice sa args.length sc], .int .i64 24, .int .i64 8] w' (IntG (spareP (.mk op cmp ⟨lk, li, ⟨lvk, lvn, lvt⟩⟩ ⟨rk, ri, ⟨rvk, rvn, rvt⟩⟩ args) 24 8) w')) := HSP.out
  replace HVA : Hid (∀ w', Below W.heap.size W w' → Calls Tryd.prog 72 #[.agg #[.int .i64 op, .int .i64 cmp, .int .i64 lk, .int .i64 li, .int .i64 lvk, .int .i64 lvn, .string lvt, .int .i64 rk, .int .i64 ri, .int .i64 rvk, .int .i64 rvn, .string rvt, .slice sa args.length sc], .slice ca cn cc, .slice qa qn qc] w' (BoolG (validA cols par (.mk op cmp ⟨lk, li, ⟨lvk, lvn, lvt⟩⟩ ⟨rk, ri, ⟨rvk, rvn, rvt⟩⟩ args)) w')) := HVA.out
  show Calls _ _ #[.slice ca cn cc, .slice qa qn qc, .agg #[.int .i64 op, .int .i64 cmp, .int .i64 lk, .int .i64 li, .int .i64 lvk, .int .i64 lvn, .string lvt, .int .i64 rk, .int .i64 ri, .int .i64 rvk, .int .i64 rvn, .string rvt, .slice sa args.length sc]] _ _
  clear HIN
  generalize kindsB cols = x at HKC HE
  generalize kindsB par = y at HKP HE
  generalize spareP (.mk op cmp ⟨lk, li, ⟨lvk, lvn, lvt⟩⟩ ⟨rk, ri, ⟨rvk, rvn, rvt⟩⟩ args) 24 8 = z at HSP HNG
  generalize validA cols par (.mk op cmp ⟨lk, li, ⟨lvk, lvn, lvt⟩⟩ ⟨rk, ri, ⟨rvk, rvn, rvt⟩⟩ args) = v at HVA HSM
  generalize validR cols par (.mk op cmp ⟨lk, li, ⟨lvk, lvn, lvt⟩⟩ ⟨rk, ri, ⟨rvk, rvn, rvt⟩⟩ args) = vr at HE HSM
  generalize countP (.mk op cmp ⟨lk, li, ⟨lvk, lvn, lvt⟩⟩ ⟨rk, ri, ⟨rvk, rvn, rvt⟩⟩ args) = C at HE HNG HSM
  generalize depthP (.mk op cmp ⟨lk, li, ⟨lvk, lvn, lvt⟩⟩ ⟨rk, ri, ⟨rvk, rvn, rvt⟩⟩ args) = D at HE HNG HSM
  go_enter Tryd.func53, Tryd.ntmps53
  go_wp2_with fail
  rw [← HW.out]
  refine HKC.out.mono ?_
  rintro e w2 ⟨rfl, hg2⟩
  have HG2 := Lib.hid hg2
  have HKP2 := Lib.hid (HKP.out w2 hg2.below)
  clear hg2 HW HKC HKP
  cases x with
  | false =>
    have HX : Hid (1 = res) := by show _ = _; rw [← HE.out, if_pos (.inl rfl)]
    go_wp2
    go_ret
    exact intg HX.out (HG.out.trans HG2.out)
  | true =>
    go_wp2_with fail
    refine HKP2.out.mono ?_
    rintro e w3 ⟨rfl, hg3⟩
    have hg3' := HG2.out.trans hg3
    have HG3 := Lib.hid hg3'
    obtain ⟨l, b0, b1, b2, b3, b4, b5, b6, b7, b8, b9, b10, b11, b12⟩ := HBX.out.later hg3'.below
    simp only [Pr.op, Pr.cmp, Pr.l, Pr.r, Pr.args] at b0 b1 b2 b3 b4 b5 b6 b7 b8 b9 b10 b11 b12
    clear hg3 hg3' HG2 HKP2
    cases y with
    | false =>
      have HX : Hid (1 = res) := by show _ = _; rw [← HE.out, if_pos (.inr rfl)]
      go_wp2
      go_ret
      exact intg HX.out (HG.out.trans HG3.out)
    | true =>
      rw [if_neg (by simp)] at HE
      have HS3 := Lib.hid (HSP.out w3 HG3.out.below)
      clear HSP
      go_wp2_with fail
      refine HS3.out.mono ?_
      rintro e w4 ⟨rfl, hg4⟩
      have hg4' := HG3.out.trans hg4
      have HG4 := Lib.hid hg4'
      obtain ⟨l, b0, b1, b2, b3, b4, b5, b6, b7, b8, b9, b10, b11, b12⟩ := HBX.out.later hg4'.below
      simp only [Pr.op, Pr.cmp, Pr.l, Pr.r, Pr.args] at b0 b1 b2 b3 b4 b5 b6 b7 b8 b9 b10 b11 b12
      have HV4 := Lib.hid (HVA.out w4 hg4'.below)
      clear hg4 hg4' HG3 HVA HBX
      generalize w.heap.size = gb at l b0 b1 b2 b3 b4 b5 b6 b7 b8 b9 b10 b11 b12 ⊢
      by_cases hz : z < 0
      · have HX : Hid (2 = res) := by show _ = _; rw [← HE.out, if_pos (HNG.out.1 hz)]
        have hd : decide (z < 0) = true := by simpa using hz
        go_wp2
        go_ret
        exact intg HX.out (HG.out.trans HG4.out)
      · have hd : decide (z < 0) = false := by simpa using hz
        have hno : ¬ (24 < C ∨ 8 < D) := fun h => hz (HNG.out.2 h)
        rw [if_neg hno, ← HSM.out hno] at HE
        clear hno
        go_wp2_with fail
        refine HV4.out.mono ?_
        rintro e w5 ⟨rfl, hg5⟩
        have HG5 := Lib.hid (HG.out.trans (HG4.out.trans hg5))
        clear hg5
        cases v with
        | false =>
          have HX : Hid (50 = res) := HE.out
          go_wp2
          go_ret
          exact intg HX.out HG5.out
        | true =>
          have HX : Hid (0 = res) := HE.out
          go_wp2
          go_ret
          exact intg HX.out HG5.out

set_option maxHeartbeats 4000000 in
set_option maxRecDepth 100000 in
theorem refCheck_calls (S Sc Sp : Nat → Prop) (vc vp : Value) (cols par : List Int) (k : Nat) (p : Pr) (s : Value) (w : World) (hc : IntsAt Sc w vc cols) (hq : IntsAt Sp w vp par) (hp : PrIn S w k s p.args) :
    Calls Tryd.prog 33 #[vc, vp, p.val s] w (IntG (checkE cols par p) w) := by
  have mx := mixed
  obtain ⟨sa, sc, rfl, hsl⟩ := hp.shape
  obtain ⟨W, hW⟩ : ∃ W, W = w.alloc (pBlock p (.slice sa p.args.length sc) 60) := ⟨_, rfl⟩
  have hg : Gro w W := by rw [hW]; exact (Gro.refl w).alloc _
  have HBX : Hid (PBox W w.heap.size p (.slice sa p.args.length sc)) := by show PBox _ _ _ _; rw [hW]; exact PBox.new w p _ _
  have HG := Lib.hid hg
  have HW := Lib.hid hW
  have HIN : Hid (∀ w', Below W.heap.size W w' → IntsAt Sc w' vc cols ∧ IntsAt Sp w' vp par ∧ PrIn S w' k (.slice sa p.args.length sc) p.args) := fun w' hw =>
    have hb := hg.below.trans (hw.mono hg.size)
    ⟨hc.later hb, hq.later hb, hp.later hb⟩
  have HKC := Lib.hid (refColumnKinds_calls Sc vc cols W (HIN.out W (Below.refl _ _)).1)
  have HKP := Lib.hid (fun w' hw => refColumnKinds_calls Sp vp par w' (HIN.out w' hw).2.1)
  have HND := Lib.hid (fun w' hw => nodes_at S k p (.slice sa p.args.length sc) 0 w' (by omega) (by omega) (HIN.out w' hw).2.2)
  have HDP := Lib.hid (fun w' hw => deep_at S k p (.slice sa p.args.length sc) 8 8 w' rfl (by omega) (HIN.out w' hw).2.2)
  have HVA := Lib.hid (fun w' hw => rvalid_at S Sc Sp vc vp cols par k p (.slice sa p.args.length sc) w' (HIN.out w' hw).1 (HIN.out w' hw).2.1 (HIN.out w' hw).2.2)
  obtain ⟨ca, cc, rfl, -⟩ := hc.slice
  obtain ⟨qa, qc, rfl, -⟩ := hq.slice
  clear hc hq hp hg hW 
  generalize cols.length = cn at HIN HKC HKP HVA ⊢
  generalize par.length = qn at HIN HKC HKP HVA ⊢
  obtain ⟨res, hres⟩ : ∃ res, checkE cols par p = res := ⟨_, rfl⟩
  rw [hres]
  obtain ⟨op, cmp, ⟨lk, li, ⟨lvk, lvn, lvt⟩⟩, ⟨rk, ri, ⟨rvk, rvn, rvt⟩⟩, args⟩ := p
  replace HW : Hid (W = w.alloc (.cells #[.int .i64 op, .int .i64 cmp, .int .i64 lk, .int .i64 li, .int .i64 lvk, .int .i64 lvn, .string lvt, .int .i64 rk, .int .i64 ri, .int .i64 rvk, .int .i64 rvn, .string rvt, .slice sa args.length sc] 60)) := HW.out
  replace HBX : Hid (PBox W w.heap.size (.mk op cmp ⟨lk, li, ⟨lvk, lvn, lvt⟩⟩ ⟨rk, ri, ⟨rvk, rvn, rvt⟩⟩ args) (.slice sa args.length sc)) := HBX.out
  have HE : Hid ((if kindsB cols = false ∨ kindsB par = false then 1 else if 24 < countP (.mk op cmp ⟨lk, li, ⟨lvk, lvn, lvt⟩⟩ ⟨rk, ri, ⟨rvk, rvn, rvt⟩⟩ args) ∨ 8 < depthP (.mk op cmp ⟨lk, li, ⟨lvk, lvn, lvt⟩⟩ ⟨rk, ri, ⟨rvk, rvn, rvt⟩⟩ args) then 2 else if validR cols par (.mk op cmp ⟨lk, li, ⟨lvk, lvn, lvt⟩⟩ ⟨rk, ri, ⟨rvk, rvn, rvt⟩⟩ args) = false then 50 else 0) = res) := hres
  have HSM : Hid (¬ (24 < countP (.mk op cmp ⟨lk, li, ⟨lvk, lvn, lvt⟩⟩ ⟨rk, ri, ⟨rvk, rvn, rvt⟩⟩ args) ∨ 8 < depthP (.mk op cmp ⟨lk, li, ⟨lvk, lvn, lvt⟩⟩ ⟨rk, ri, ⟨rvk, rvn, rvt⟩⟩ args)) → validA cols par (.mk op cmp ⟨lk, li, ⟨lvk, lvn, lvt⟩⟩ ⟨rk, ri, ⟨rvk, rvn, rvt⟩⟩ args) = validR cols par (.mk op cmp ⟨lk, li, ⟨lvk, lvn, lvt⟩⟩ ⟨rk, ri, ⟨rvk, rvn, rvt⟩⟩ args)) := fun h => validA_small cols par (.mk op cmp ⟨lk, li, ⟨lvk, lvn, lvt⟩⟩ ⟨rk, ri, ⟨rvk, rvn, rvt⟩⟩ args) (by omega)
  clear hres
  have HNG := Lib.hid (nodes_big (.mk op cmp ⟨lk, li, ⟨lvk, lvn, lvt⟩⟩ ⟨rk, ri, ⟨rvk, rvn, rvt⟩⟩ args))
  have HDG := Lib.hid (deepP_eq (.mk op cmp ⟨lk, li, ⟨lvk, lvn, lvt⟩⟩ ⟨rk, ri, ⟨rvk, rvn, rvt⟩⟩ args) 8)
  replace HND : Hid (∀ w', Below W.heap.size W w' → Calls Tryd.prog 45 #[.agg #[.int .i64 op, .int .i64 cmp, .int .i64 lk, .int .i64 li, .int .i64 lvk, .int .i64 lvn, .string lvt, .int .i64 rk, .int .i64 ri, .int .i64 rvk, .int .i64 rvn, .string rvt, .slice sa args.length sc], .int .i64 0] w' (IntG (nodesP (.mk op cmp ⟨lk, li, ⟨lvk, lvn, lvt⟩⟩ ⟨rk, ri, ⟨rvk, rvn, rvt⟩⟩ args) 0) w')) := HND.out
  replace HDP : Hid (∀ w', Below W.heap.size W w' → Calls Tryd.prog 46 #[.agg #[.int .i64 op, .int .i64 cmp, .int .i64 lk, .int .i64 li, .int .i64 lvk, .int .i64 lvn, .string lvt, .int .i64 rk, .int .i64 ri, .int .i64 rvk, .int .i64 rvn, .string rvt, .slice sa args.length sc], .int .i64 8] w' (BoolG (deepP (.mk op cmp ⟨lk, li, ⟨lvk, lvn, lvt⟩⟩ ⟨rk, ri, ⟨rvk, rvn, rvt⟩⟩ args) 8) w')) := HDP.out
  replace HVA : Hid (∀ w', Below W.heap.size W w' → Calls Tryd.prog 47 #[.slice ca cn cc, .slice qa qn qc, .agg #[.int .i64 op, .int .i64 cmp, .int .i64 lk, .int .i64 li, .int .i64 lvk, .int .i64 lvn, .string lvt, .int .i64 rk, .int .i64 ri, .int .i64 rvk, .int .i64 rvn, .string rvt, .slice sa args.length sc]] w' (BoolG (validR cols par (.mk op cmp ⟨lk, li, ⟨lvk, lvn, lvt⟩⟩ ⟨rk, ri, ⟨rvk, rvn, rvt⟩⟩ args)) w')) := HVA.out
  show Calls _ _ #[.slice ca cn cc, .slice qa qn qc, .agg #[.int .i64 op, .int .i64 cmp, .int .i64 lk, .int .i64 li, .int .i64 lvk, .int .i64 lvn, .string lvt, .int .i64 rk, .int .i64 ri, .int .i64 rvk, .int .i64 rvn, .string rvt, .slice sa args.length sc]] _ _
  clear HIN HSM
  generalize kindsB cols = x at HKC HE
  generalize kindsB par = y at HKP HE
  generalize nodesP (.mk op cmp ⟨lk, li, ⟨lvk, lvn, lvt⟩⟩ ⟨rk, ri, ⟨rvk, rvn, rvt⟩⟩ args) 0 = z at HND HNG
  generalize deepP (.mk op cmp ⟨lk, li, ⟨lvk, lvn, lvt⟩⟩ ⟨rk, ri, ⟨rvk, rvn, rvt⟩⟩ args) 8 = d at HDP HDG
  generalize validR cols par (.mk op cmp ⟨lk, li, ⟨lvk, lvn, lvt⟩⟩ ⟨rk, ri, ⟨rvk, rvn, rvt⟩⟩ args) = v at HVA HE
  generalize countP (.mk op cmp ⟨lk, li, ⟨lvk, lvn, lvt⟩⟩ ⟨rk, ri, ⟨rvk, rvn, rvt⟩⟩ args) = C at HE HNG
  generalize depthP (.mk op cmp ⟨lk, li, ⟨lvk, lvn, lvt⟩⟩ ⟨rk, ri, ⟨rvk, rvn, rvt⟩⟩ args) = D at HE HDG
  go_enter Tryd.func33, Tryd.ntmps33
  go_wp2_with fail
  rw [← HW.out]
  refine HKC.out.mono ?_
  rintro e w2 ⟨rfl, hg2⟩
  have HG2 := Lib.hid hg2
  have HKP2 := Lib.hid (HKP.out w2 hg2.below)
  clear hg2 HW HKC HKP
  cases x with
  | false =>
    have HX : Hid (1 = res) := by show _ = _; rw [← HE.out, if_pos (.inl rfl)]
    go_wp2
    go_ret
    exact intg HX.out (HG.out.trans HG2.out)
  | true =>
    go_wp2_with fail
    refine HKP2.out.mono ?_
    rintro e w3 ⟨rfl, hg3⟩
    have hg3' := HG2.out.trans hg3
    have HG3 := Lib.hid hg3'
    obtain ⟨l, b0, b1, b2, b3, b4, b5, b6, b7, b8, b9, b10, b11, b12⟩ := HBX.out.later hg3'.below
    simp only [Pr.op, Pr.cmp, Pr.l, Pr.r, Pr.args] at b0 b1 b2 b3 b4 b5 b6 b7 b8 b9 b10 b11 b12
    clear hg3 hg3' HG2 HKP2
    cases y with
    | false =>
      have HX : Hid (1 = res) := by show _ = _; rw [← HE.out, if_pos (.inr rfl)]
      go_wp2
      go_ret
      exact intg HX.out (HG.out.trans HG3.out)
    | true =>
      rw [if_neg (by simp)] at HE
      have HS3 := Lib.hid (HND.out w3 HG3.out.below)
      clear HND
      go_wp2_with fail
      refine HS3.out.mono ?_
      rintro e w4 ⟨rfl, hg4⟩
      have hg4' := HG3.out.trans hg4
      have HG4 := Lib.hid hg4'
      obtain ⟨l, b0, b1, b2, b3, b4, b5, b6, b7, b8, b9, b10, b11, b12⟩ := HBX.out.later hg4'.below
      simp only [Pr.op, Pr.cmp, Pr.l, Pr.r, Pr.args] at b0 b1 b2 b3 b4 b5 b6 b7 b8 b9 b10 b11 b12
      have HD4 := Lib.hid (HDP.out w4 hg4'.below)
      clear hg4 hg4' HG3 HDP
      by_cases hz : 24 < z
      · have HX : Hid (2 = res) := by show _ = _; rw [← HE.out, if_pos (.inl (HNG.out.1 hz))]
        have hd : decide (24 < z) = true := by simpa using hz
        go_wp2
        go_ret
        exact intg HX.out (HG.out.trans HG4.out)
      · have hd : decide (24 < z) = false := by simpa using hz
        have HZ : Hid (¬ 24 < C) := fun h => hz (HNG.out.2 h)
        go_wp2_with fail
        refine HD4.out.mono ?_
        rintro e w5 ⟨rfl, hg5⟩
        have hg5' := HG4.out.trans hg5
        have HG5 := Lib.hid hg5'
        obtain ⟨l, b0, b1, b2, b3, b4, b5, b6, b7, b8, b9, b10, b11, b12⟩ := HBX.out.later hg5'.below
        simp only [Pr.op, Pr.cmp, Pr.l, Pr.r, Pr.args] at b0 b1 b2 b3 b4 b5 b6 b7 b8 b9 b10 b11 b12
        have HV5 := Lib.hid (HVA.out w5 hg5'.below)
        clear hg5 hg5' HG4 HVA HBX
        generalize w.heap.size = gb at l b0 b1 b2 b3 b4 b5 b6 b7 b8 b9 b10 b11 b12 ⊢
        cases d with
        | true =>
          have HX : Hid (2 = res) := by show _ = _; rw [← HE.out, if_pos (.inr (of_decide_eq_true HDG.out.symm))]
          go_wp2
          go_ret
          exact intg HX.out (HG.out.trans HG5.out)
        | false =>
          have hno : ¬ (24 < C ∨ 8 < D) := fun h => h.elim HZ.out (of_decide_eq_false HDG.out.symm)
          rw [if_neg hno] at HE
          clear hno
          go_wp2_with fail
          refine HV5.out.mono ?_
          rintro e w6 ⟨rfl, hg6⟩
          have HG6 := Lib.hid (HG.out.trans (HG5.out.trans hg6))
          clear hg6
          cases v with
          | false =>
            have HX : Hid (50 = res) := HE.out
            go_wp2
            go_ret
            exact intg HX.out HG6.out
          | true =>
            have HX : Hid (0 = res) := HE.out
            go_wp2
            go_ret
            exact intg HX.out HG6.out
end Go.Proofs.YtpmlhgakbpfgmaaDoor
