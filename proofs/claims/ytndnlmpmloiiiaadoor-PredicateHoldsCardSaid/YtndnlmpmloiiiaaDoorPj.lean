/- The contract of the reference's Holds. -/
import Derived.Test.YtndnlmpmloiiiaaDoorPi
import Derived.Test.YtndnlmpmloiiiaaDoorPf
set_option linter.unusedSimpArgs false
set_option linter.unusedVariables false
namespace Go.Proofs.YtndnlmpmloiiiaaDoor
open Go.RowKit

/-- What the reference's Holds answers at one predicate, to the depth k. -/
def RHoldsAt (S : Nat → Prop) (va vb : Value) (row par : List V) (k : Nat) (p : Pr) : Prop :=
  ∀ (s : Value) (w : World), RowAt w va row → RowAt w vb par → PrIn S w k s p.args → Calls Tryd.prog 18 #[p.val s, va, vb] w (BoolG (holdsP row par p) w)
theorem denV_none {row par : List V} {o : Od} (h : okB row par o = false) : denV row par o = nilV := by
  unfold okB at h
  unfold denV
  have hx : ∀ (l : List V) (i : Int), hasI l i = false → atV l i = nilV := fun l i h => by
    unfold hasI at h
    by_cases h0 : i < 0
    · exact atV_neg h0
    · by_cases h1 : (l.length : Int) ≤ i
      · exact atV_past h1
      · rw [decide_eq_true (by omega), decide_eq_true (by omega)] at h; cases h
  by_cases h1 : o.k = 1
  · rw [if_pos h1] at h ⊢; exact hx _ _ h
  rw [if_neg h1] at h ⊢
  by_cases h2 : o.k = 2
  · rw [if_pos h2] at h ⊢; exact hx _ _ h
  rw [if_neg h2] at h ⊢
  rw [if_neg (by simpa using h)]
theorem cpB_left {cmp : Int} {b : V} : cpB cmp nilV b = false := by unfold cpB; rw [nilV_real]; rfl
theorem cpB_right {cmp : Int} {a : V} : cpB cmp a nilV = false := by unfold cpB; rw [nilV_real, Bool.and_false]; rfl
/-- The cells of two values' boxes, further on. -/
structure V2 (w : World) (g : Nat) (a : V) : Prop where
  l : g < w.heap.size
  c0 : w.cell? ⟨g, 0, none⟩ = some (.int .i64 a.k)
  c1 : w.cell? ⟨g, 1, none⟩ = some (.int .i64 a.n)
  c2 : w.cell? ⟨g, 2, none⟩ = some (.string a.t)
theorem V2.new (w : World) (a : V) (T : TypeId) : V2 (w.alloc (.cells #[.int .i64 a.k, .int .i64 a.n, .string a.t] T)) w.heap.size a := ⟨by simp, by go_simp, by go_simp, by go_simp⟩
theorem V2.later {w w' : World} {g : Nat} {a : V} (h : V2 w g a) (hw : Below w.heap.size w w') : V2 w' g a :=
  ⟨Nat.lt_of_lt_of_le h.l hw.size, (hw.cell (p := ⟨g, 0, none⟩) h.l).trans h.c0, (hw.cell (p := ⟨g, 1, none⟩) h.l).trans h.c1, (hw.cell (p := ⟨g, 2, none⟩) h.l).trans h.c2⟩
set_option maxHeartbeats 4000000 in
set_option maxRecDepth 100000 in
theorem rholds_step (S : Nat → Prop) (va vb : Value) (row par : List V) (k : Nat) (p : Pr) (ih : ∀ q ∈ p.args, RHoldsAt S va vb row par k q) : RHoldsAt S va vb row par (k + 1) p := by
  intro s w ha hb hp
  have mx := mixed
  have HA := Lib.hid ha
  have HB := Lib.hid hb
  have HE := Lib.hid (holdsP_eq row par p)
  obtain ⟨a1, n1, k1, rfl⟩ := RowAt.slice ha
  obtain ⟨a2, n2, k2, rfl⟩ := RowAt.slice hb
  clear ha hb
  obtain ⟨sa, sc, rfl, hsl⟩ := hp.shape
  obtain ⟨W, hW⟩ : ∃ W, W = w.alloc (pBlock p (.slice sa p.args.length sc) 29) := ⟨_, rfl⟩
  have hg : Gro w W := by rw [hW]; exact (Gro.refl w).alloc _
  have HBX : Hid (PBox W w.heap.size p (.slice sa p.args.length sc)) := by show PBox _ _ _ _; rw [hW]; exact PBox.new w p _ _
  have HP := Lib.hid (hp.later hg.below)
  have HG := Lib.hid hg
  have HIH := Lib.hid ih
  have HW := Lib.hid hW
  clear hp hg ih hW
  obtain ⟨op, cmp, ⟨lk, li, ⟨lvk, lvn, lvt⟩⟩, ⟨rk, ri, ⟨rvk, rvn, rvt⟩⟩, args⟩ := p
  replace HW : Hid (W = w.alloc (.cells #[.int .i64 op, .int .i64 cmp, .int .i64 lk, .int .i64 li, .int .i64 lvk, .int .i64 lvn, .string lvt, .int .i64 rk, .int .i64 ri, .int .i64 rvk, .int .i64 rvn, .string rvt, .slice sa args.length sc] 29)) := HW.out
  replace HP : Hid (PrIn S W (k + 1) (.slice sa args.length sc) args) := HP.out
  replace hsl : args.length ≤ 4398046511104 := hsl
  replace HBX : Hid (PBox W w.heap.size (.mk op cmp ⟨lk, li, ⟨lvk, lvn, lvt⟩⟩ ⟨rk, ri, ⟨rvk, rvn, rvt⟩⟩ args) (.slice sa args.length sc)) := HBX.out
  obtain ⟨l, b0, b1, b2, b3, b4, b5, b6, b7, b8, b9, b10, b11, b12⟩ := HBX.out
  simp only [Pr.op, Pr.cmp, Pr.l, Pr.r, Pr.args] at b0 b1 b2 b3 b4 b5 b6 b7 b8 b9 b10 b11 b12

  obtain ⟨res, hres⟩ : ∃ res, holdsP row par (.mk op cmp ⟨lk, li, ⟨lvk, lvn, lvt⟩⟩ ⟨rk, ri, ⟨rvk, rvn, rvt⟩⟩ args) = res := ⟨_, rfl⟩
  rw [hres] at HE ⊢
  replace HE : Hid (res = if op = 1 then true else if op = 3 then cpB cmp (denV row par ⟨lk, li, ⟨lvk, lvn, lvt⟩⟩) (denV row par ⟨rk, ri, ⟨rvk, rvn, rvt⟩⟩) else if op = 4 then !failsAny row par args else if op = 5 then holdsAny row par args else if op = 6 then failsHead row par args else false) := HE.out
  replace HIH : Hid (∀ q ∈ args, RHoldsAt S (.slice a1 n1 k1) (.slice a2 n2 k2) row par k q) := HIH.out
  have HRA : Hid (∀ w', Below W.heap.size W w' → RowAt w' (.slice a1 n1 k1) row) := fun w' hw => HA.out.later (HG.out.below.trans (hw.mono HG.out.size))
  have HRB : Hid (∀ w', Below W.heap.size W w' → RowAt w' (.slice a2 n2 k2) par) := fun w' hw => HB.out.later (HG.out.below.trans (hw.mono HG.out.size))
  show Calls _ _ #[.agg #[.int .i64 op, .int .i64 cmp, .int .i64 lk, .int .i64 li, .int .i64 lvk, .int .i64 lvn, .string lvt, .int .i64 rk, .int .i64 ri, .int .i64 rvk, .int .i64 rvn, .string rvt, .slice sa args.length sc], .slice a1 n1 k1, .slice a2 n2 k2] _ _
  clear hres HA HB
  by_cases h1 : op = 1
  · subst h1
    have HR : Hid (true = res) := HE.out.symm
    go_enter Tryd.func18, Tryd.ntmps18
    go_wp2
    go_ret
    rw [← HW.out]
    exact boolg HR.out HG.out
  rw [if_neg h1] at HE
  by_cases h3 : op = 3
  · subst h3
    have HR : Hid (cpB cmp (denV row par ⟨lk, li, ⟨lvk, lvn, lvt⟩⟩) (denV row par ⟨rk, ri, ⟨rvk, rvn, rvt⟩⟩) = res) := HE.out.symm
    have HDL := Lib.hid (refDenoted_calls ⟨lk, li, ⟨lvk, lvn, lvt⟩⟩ (.slice a1 n1 k1) (.slice a2 n2 k2) row par W (HRA.out _ (Below.refl _ _)) (HRB.out _ (Below.refl _ _)))
    have HDR := Lib.hid (fun w' hw => refDenoted_calls ⟨rk, ri, ⟨rvk, rvn, rvt⟩⟩ (.slice a1 n1 k1) (.slice a2 n2 k2) row par w' (HRA.out w' hw) (HRB.out w' hw))
    have HCP := Lib.hid (fun w' => refCompares_calls cmp (denV row par ⟨lk, li, ⟨lvk, lvn, lvt⟩⟩) (denV row par ⟨rk, ri, ⟨rvk, rvn, rvt⟩⟩) w')
    have HNL : Hid (okB row par ⟨lk, li, ⟨lvk, lvn, lvt⟩⟩ = false → false = res) := fun h => by rw [← HR.out, denV_none h, cpB_left]
    have HNR : Hid (okB row par ⟨rk, ri, ⟨rvk, rvn, rvt⟩⟩ = false → false = res) := fun h => by rw [← HR.out, denV_none h, cpB_right]
    clear HE
    generalize denV row par ⟨lk, li, ⟨lvk, lvn, lvt⟩⟩ = x at HDL HCP HR
    generalize denV row par ⟨rk, ri, ⟨rvk, rvn, rvt⟩⟩ = y at HDR HCP HR
    generalize okB row par ⟨lk, li, ⟨lvk, lvn, lvt⟩⟩ = okx at HDL HNL
    generalize okB row par ⟨rk, ri, ⟨rvk, rvn, rvt⟩⟩ = oky at HDR HNR
    generalize cpB cmp x y = q at HCP HR
    obtain ⟨xk, xn, xt⟩ := x
    obtain ⟨yk, yn, yt⟩ := y
    go_enter Tryd.func18, Tryd.ntmps18
    go_wp2_with fail
    rw [← HW.out]
    refine HDL.out.mono ?_
    rintro e w1 ⟨rfl, hg1⟩
    have hbx1 := HBX.out.later hg1.below
    obtain ⟨l, b0, b1, b2, b3, b4, b5, b6, b7, b8, b9, b10, b11, b12⟩ := hbx1
    simp only [Pr.op, Pr.cmp, Pr.l, Pr.r, Pr.args] at b0 b1 b2 b3 b4 b5 b6 b7 b8 b9 b10 b11 b12
    generalize w.heap.size = gb at l b0 b1 b2 b3 b4 b5 b6 b7 b8 b9 b10 b11 b12 HBX ⊢
    obtain ⟨w1a, hw1a⟩ : ∃ w1a, w1a = w1.alloc (.cells #[.int .i64 xk, .int .i64 xn, .string xt] 24) := ⟨_, rfl⟩
    have hg1a : Gro W w1a := by rw [hw1a]; exact hg1.alloc _
    have hvx : V2 w1a w1.heap.size ⟨xk, xn, xt⟩ := by rw [hw1a]; exact V2.new w1 ⟨xk, xn, xt⟩ _
    have HW1 := Lib.hid hw1a
    have HG1 := Lib.hid hg1a
    have HVX := Lib.hid hvx
    clear hw1a hg1a hvx hg1
    go_wp2_with fail
    rw [← HW1.out]
    refine (HDR.out w1a HG1.out.below).mono ?_
    rintro e w2 ⟨rfl, hg2⟩
    have hbx2 := HBX.out.later (HG1.out.trans hg2).below
    obtain ⟨l, b0, b1, b2, b3, b4, b5, b6, b7, b8, b9, b10, b11, b12⟩ := hbx2
    simp only [Pr.op, Pr.cmp, Pr.l, Pr.r, Pr.args] at b0 b1 b2 b3 b4 b5 b6 b7 b8 b9 b10 b11 b12
    obtain ⟨q0, q1, q2, q3⟩ := HVX.out.later hg2.below
    generalize w1.heap.size = gx at HVX q0 q1 q2 q3 ⊢
    have HG2 := Lib.hid (HG.out.trans (HG1.out.trans hg2))
    clear hg2 HW1 HW HBX HVX HG1 HDL HDR
    cases okx with
    | false =>
      have HX := Lib.hid (HNL.out rfl)
      go_wp2
      go_ret
      exact boolg HX.out (HG2.out.alloc _)
    | true =>
      cases oky with
      | false =>
        have HX := Lib.hid (HNR.out rfl)
        go_wp2
        go_ret
        exact boolg HX.out (HG2.out.alloc _)
      | true =>
        go_wp2_with fail
        refine (HCP.out _).mono ?_
        rintro e w3 ⟨rfl, hg3⟩
        have HG3 : Hid (Gro w w3) := (HG2.out.alloc _).trans hg3
        clear hg3
        go_wp2
        go_ret
        exact boolg HR.out HG3.out
  rw [if_neg h3] at HE
  by_cases h4 : op = 4
  · subst h4
    have HR : Hid ((!failsAny row par args) = res) := HE.out.symm
    clear HE
    generalize hN : args.length = N at hsl HP HW b12 HBX ⊢
    have HN := Lib.hid hN
    clear hN
    go_enter Tryd.func18, Tryd.ntmps18
    go_wp2_with fail
    rw [← HW.out]
    clear HW h1 h3 
    generalize w.heap.size = gb at l b0 b1 b2 b3 b4 b5 b6 b7 b8 b9 b10 b11 b12 HBX ⊢
    go_loopw [11, 51] (fun _ i wr => ∃ j : Nat, j ≤ N ∧ i = .int .i64 j ∧ failsAny row par (args.take j) = false ∧ Gro W wr) (fun _ i _ => N - (intOf i).toNat)
    case atStart => exact ⟨0, by omega, rfl, rfl, Gro.refl _⟩
    case round =>
      obtain ⟨j, hj, rfl, ht, hg⟩ := hrel
      have HT := Lib.hid ht
      have HGR := Lib.hid hg
      obtain ⟨l, b0, b1, b2, b3, b4, b5, b6, b7, b8, b9, b10, b11, b12⟩ := HBX.out.later hg.below
      simp only [Pr.op, Pr.cmp, Pr.l, Pr.r, Pr.args] at b0 b1 b2 b3 b4 b5 b6 b7 b8 b9 b10 b11 b12
      by_cases hlt : j < N
      · have hkl : j < args.length := by rw [HN.out]; exact hlt
        have hlt' : decide ((j : Int) < (N : Int)) = true := by simp; omega
        obtain ⟨b, off, s, rfl, hbl, -, hat, hr⟩ := (HP.out.later hg.below).get hkl
        have hc := HIH.out args[j] (List.getElem_mem hkl) s wr (HRA.out wr hg.below) (HRB.out wr hg.below) hr
        have HTS : Hid (failsAny row par (args.take (j + 1)) = (failsAny row par (args.take j) || !holdsP row par args[j])) := by
          show _ = _
          rw [failsAny_eq, failsAny_eq, List.take_succ_eq_append_getElem hkl, List.any_append]; simp
        have HME : Hid (∀ h : (!holdsP row par args[j]) = true, failsAny row par args = true) := fun h => by
          rw [failsAny_eq, List.any_eq_true]; exact ⟨_, List.getElem_mem hkl, h⟩
        generalize args[j] = x at hat hc HTS HME
        generalize holdsP row par x = q at hc HTS HME
        have HC := Lib.hid hc
        obtain ⟨d0, d1, d2, d3, d4, d5, d6, d7, d8, d9, d10, d11, d12⟩ := hat
        have hwk := step_i j (by omega)
        clear ht hg hr hc
        cases q with
        | true =>
          go_wp2_with fail
          refine HC.out.mono ?_
          rintro e w2 ⟨rfl, hg2⟩
          have HG2 := Lib.hid hg2
          clear hg2
          go_wp2
          exact ⟨⟨j + 1, by omega, by go_num, by rw [HTS.out, HT.out]; (try rfl), HGR.out.trans HG2.out⟩, by simp [intOf]; omega⟩
        | false =>
          have HX : Hid (false = res) := by show _ = _; rw [← HR.out, HME.out rfl]; try rfl
          go_wp2_with fail
          refine HC.out.mono ?_
          rintro e w2 ⟨rfl, hg2⟩
          have HG2 := Lib.hid hg2
          clear hg2
          go_wp2
          go_ret
          exact boolg HX.out (HG.out.trans (HGR.out.trans HG2.out))
      · have hlt' : decide ((j : Int) < (N : Int)) = false := by simp; omega
        have HX : Hid (true = res) := by
          show _ = _
          rw [List.take_of_length_le (by have := HN.out; omega)] at ht
          rw [← HR.out, ht]; try rfl
        clear ht hg
        go_wp2
        go_ret
        exact boolg HX.out (HG.out.trans HGR.out)
  rw [if_neg h4] at HE
  by_cases h5 : op = 5
  · subst h5
    have HR : Hid (holdsAny row par args = res) := HE.out.symm
    clear HE
    generalize hN : args.length = N at hsl HP HW b12 HBX ⊢
    have HN := Lib.hid hN
    clear hN
    go_enter Tryd.func18, Tryd.ntmps18
    go_wp2_with fail
    rw [← HW.out]
    clear HW h1 h3 h4
    generalize w.heap.size = gb at l b0 b1 b2 b3 b4 b5 b6 b7 b8 b9 b10 b11 b12 HBX ⊢
    go_loopw [12, 69] (fun _ i wr => ∃ j : Nat, j ≤ N ∧ i = .int .i64 j ∧ holdsAny row par (args.take j) = false ∧ Gro W wr) (fun _ i _ => N - (intOf i).toNat)
    case atStart => exact ⟨0, by omega, rfl, rfl, Gro.refl _⟩
    case round =>
      obtain ⟨j, hj, rfl, ht, hg⟩ := hrel
      have HT := Lib.hid ht
      have HGR := Lib.hid hg
      obtain ⟨l, b0, b1, b2, b3, b4, b5, b6, b7, b8, b9, b10, b11, b12⟩ := HBX.out.later hg.below
      simp only [Pr.op, Pr.cmp, Pr.l, Pr.r, Pr.args] at b0 b1 b2 b3 b4 b5 b6 b7 b8 b9 b10 b11 b12
      by_cases hlt : j < N
      · have hkl : j < args.length := by rw [HN.out]; exact hlt
        have hlt' : decide ((j : Int) < (N : Int)) = true := by simp; omega
        obtain ⟨b, off, s, rfl, hbl, -, hat, hr⟩ := (HP.out.later hg.below).get hkl
        have hc := HIH.out args[j] (List.getElem_mem hkl) s wr (HRA.out wr hg.below) (HRB.out wr hg.below) hr
        have HTS : Hid (holdsAny row par (args.take (j + 1)) = (holdsAny row par (args.take j) || holdsP row par args[j])) := by
          show _ = _
          rw [holdsAny_eq, holdsAny_eq, List.take_succ_eq_append_getElem hkl, List.any_append]; simp
        have HME : Hid (∀ h : (holdsP row par args[j]) = true, holdsAny row par args = true) := fun h => by
          rw [holdsAny_eq, List.any_eq_true]; exact ⟨_, List.getElem_mem hkl, h⟩
        generalize args[j] = x at hat hc HTS HME
        generalize holdsP row par x = q at hc HTS HME
        have HC := Lib.hid hc
        obtain ⟨d0, d1, d2, d3, d4, d5, d6, d7, d8, d9, d10, d11, d12⟩ := hat
        have hwk := step_i j (by omega)
        clear ht hg hr hc
        cases q with
        | false =>
          go_wp2_with fail
          refine HC.out.mono ?_
          rintro e w2 ⟨rfl, hg2⟩
          have HG2 := Lib.hid hg2
          clear hg2
          go_wp2
          exact ⟨⟨j + 1, by omega, by go_num, by rw [HTS.out, HT.out]; (try rfl), HGR.out.trans HG2.out⟩, by simp [intOf]; omega⟩
        | true =>
          have HX : Hid (true = res) := by show _ = _; rw [← HR.out, HME.out rfl]; try rfl
          go_wp2_with fail
          refine HC.out.mono ?_
          rintro e w2 ⟨rfl, hg2⟩
          have HG2 := Lib.hid hg2
          clear hg2
          go_wp2
          go_ret
          exact boolg HX.out (HG.out.trans (HGR.out.trans HG2.out))
      · have hlt' : decide ((j : Int) < (N : Int)) = false := by simp; omega
        have HX : Hid (false = res) := by
          show _ = _
          rw [List.take_of_length_le (by have := HN.out; omega)] at ht
          rw [← HR.out, ht]; try rfl
        clear ht hg
        go_wp2
        go_ret
        exact boolg HX.out (HG.out.trans HGR.out)
  rw [if_neg h5] at HE
  by_cases h6 : op = 6
  · subst h6
    have HR : Hid (failsHead row par args = res) := HE.out.symm
    clear HE
    cases args with
    | nil =>
      replace HR : Hid (false = res) := HR.out
      have HGX : Gro w W := HG.out
      rw [HW.out] at HGX
      have HX := Lib.hid HGX
      clear HGX
      go_enter Tryd.func18, Tryd.ntmps18
      go_wp2
      go_ret
      exact boolg HR.out HX.out
    | cons x xs =>
      replace HR : Hid ((!holdsP row par x) = res) := HR.out
      obtain ⟨b, off, s, rfl, hbl, -, hat, hr⟩ := HP.out.get (i := 0) (by simp)
      replace hr : PrIn S W k s x.args := hr
      replace hat : PrAt W b (off + 0 * 13) x s := hat
      have hc := HIH.out x (by simp) s W (HRA.out _ (Below.refl _ _)) (HRB.out _ (Below.refl _ _)) hr
      generalize holdsP row par x = q at hc HR
      have HC := Lib.hid hc
      have hlen : ((xs.length : Int) + 1 : Int) > 0 := by omega
      obtain ⟨d0, d1, d2, d3, d4, d5, d6, d7, d8, d9, d10, d11, d12⟩ := hat
      simp only [Nat.zero_mul, Nat.add_zero] at d0 d1 d2 d3 d4 d5 d6 d7 d8 d9 d10 d11 d12
      have hWe := HW.out
      clear HW HP HRA HRB HBX hr hc HIH
      subst hWe
      simp only [List.length_cons] at *
      go_enter Tryd.func18, Tryd.ntmps18
      go_wp2_with fail
      refine HC.out.mono ?_
      rintro e w2 ⟨rfl, hg2⟩
      have HG2 := Lib.hid (HG.out.trans hg2)
      clear hg2
      go_wp2
      go_ret
      exact boolg HR.out HG2.out
  rw [if_neg h6] at HE
  have HR : Hid (false = res) := HE.out.symm
  go_enter Tryd.func18, Tryd.ntmps18
  go_wp2
  go_ret
  rw [← HW.out]
  exact boolg HR.out HG.out
theorem rholds_at (S : Nat → Prop) (va vb : Value) (row par : List V) : ∀ (k : Nat) (p : Pr), RHoldsAt S va vb row par k p
  | 0, p => fun s w ha hb hp => rholds_step S va vb row par 0 p (fun q hq => by rw [hp.1] at hq; simp at hq) s w ha hb hp.deeper
  | k + 1, p => rholds_step S va vb row par k p fun q _ => rholds_at S va vb row par k q
end Go.Proofs.YtndnlmpmloiiiaaDoor
