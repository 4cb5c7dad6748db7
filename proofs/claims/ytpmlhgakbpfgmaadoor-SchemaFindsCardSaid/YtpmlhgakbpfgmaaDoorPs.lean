/- The contract of the reference's valid. -/
import Derived.Test.YtpmlhgakbpfgmaaDoorPp
set_option linter.unusedSimpArgs false
set_option linter.unusedVariables false
namespace Go.Proofs.YtpmlhgakbpfgmaaDoor
open Go.RowKit

def RValidAt (S Sc Sp : Nat → Prop) (vc vp : Value) (cols par : List Int) (k : Nat) (p : Pr) : Prop :=
  ∀ (s : Value) (w : World), IntsAt Sc w vc cols → IntsAt Sp w vp par → PrIn S w k s p.args → Calls Tryd.prog 47 #[vc, vp, p.val s] w (BoolG (validR cols par p) w)
theorem rval_args {cols par : List Int} {args : List Pr} {b : Bool} : (decide (args.length = 0) && b && !rbadL cols par args) = (b && decide (args.length = 0)) := by
  cases args with
  | nil => simp [rbadL]
  | cons x xs => simp
set_option maxHeartbeats 8000000 in
set_option maxRecDepth 100000 in
theorem rvalid_step (S Sc Sp : Nat → Prop) (vc vp : Value) (cols par : List Int) (k : Nat) (p : Pr) (ih : ∀ q ∈ p.args, RValidAt S Sc Sp vc vp cols par k q) : RValidAt S Sc Sp vc vp cols par (k + 1) p := by
  intro s w hc hq hp
  have mx := mixed
  have HC := Lib.hid hc
  have HQ := Lib.hid hq
  obtain ⟨ca, cc, rfl, -⟩ := hc.slice
  obtain ⟨qa, qc, rfl, -⟩ := hq.slice
  clear hc hq
  generalize cols.length = cn at HC HQ ih ⊢
  generalize par.length = qn at HC HQ ih ⊢
  obtain ⟨sa, sc, rfl, hsl⟩ := hp.shape
  obtain ⟨W, hW⟩ : ∃ W, W = w.alloc (pBlock p (.slice sa p.args.length sc) 60) := ⟨_, rfl⟩
  have hg : Gro w W := by rw [hW]; exact (Gro.refl w).alloc _
  have HBX : Hid (PBox W w.heap.size p (.slice sa p.args.length sc)) := by show PBox _ _ _ _; rw [hW]; exact PBox.new w p _ _
  have HP := Lib.hid (hp.later hg.below)
  have HG := Lib.hid hg
  have HIH := Lib.hid ih
  have HW := Lib.hid hW
  clear hp hg ih hW
  obtain ⟨op, cmp, ⟨lk, li, ⟨lvk, lvn, lvt⟩⟩, ⟨rk, ri, ⟨rvk, rvn, rvt⟩⟩, args⟩ := p
  replace HW : Hid (W = w.alloc (.cells #[.int .i64 op, .int .i64 cmp, .int .i64 lk, .int .i64 li, .int .i64 lvk, .int .i64 lvn, .string lvt, .int .i64 rk, .int .i64 ri, .int .i64 rvk, .int .i64 rvn, .string rvt, .slice sa args.length sc] 60)) := HW.out
  replace HP : Hid (PrIn S W (k + 1) (.slice sa args.length sc) args) := HP.out
  replace hsl : args.length ≤ 4398046511104 := hsl
  replace HBX : Hid (PBox W w.heap.size (.mk op cmp ⟨lk, li, ⟨lvk, lvn, lvt⟩⟩ ⟨rk, ri, ⟨rvk, rvn, rvt⟩⟩ args) (.slice sa args.length sc)) := HBX.out
  obtain ⟨l, b0, b1, b2, b3, b4, b5, b6, b7, b8, b9, b10, b11, b12⟩ := HBX.out
  simp only [Pr.op, Pr.cmp, Pr.l, Pr.r, Pr.args] at b0 b1 b2 b3 b4 b5 b6 b7 b8 b9 b10 b11 b12

  replace HIH : Hid (∀ q ∈ args, RValidAt S Sc Sp (.slice ca cn cc) (.slice qa qn qc) cols par k q) := HIH.out
  have HRC : Hid (∀ w', Below W.heap.size W w' → IntsAt Sc w' (.slice ca cn cc) cols) := fun w' hw => HC.out.later (HG.out.below.trans (hw.mono HG.out.size))
  have HRQ : Hid (∀ w', Below W.heap.size W w' → IntsAt Sp w' (.slice qa qn qc) par) := fun w' hw => HQ.out.later (HG.out.below.trans (hw.mono HG.out.size))
  obtain ⟨res, hres⟩ : ∃ res, validR cols par (.mk op cmp ⟨lk, li, ⟨lvk, lvn, lvt⟩⟩ ⟨rk, ri, ⟨rvk, rvn, rvt⟩⟩ args) = res := ⟨_, rfl⟩
  rw [hres]
  have HE : Hid ((rnodeB cols par op cmp ⟨lk, li, ⟨lvk, lvn, lvt⟩⟩ ⟨rk, ri, ⟨rvk, rvn, rvt⟩⟩ args.length && !rbadL cols par args) = res) := by show _ = _; rw [← hres, validR]
  have HPL : Hid (∀ w', Calls Tryd.prog 60 #[.agg #[.int .i64 op, .int .i64 cmp, .int .i64 lk, .int .i64 li, .int .i64 lvk, .int .i64 lvn, .string lvt, .int .i64 rk, .int .i64 ri, .int .i64 rvk, .int .i64 rvn, .string rvt, .slice sa args.length sc]] w' (BoolG (plainB cmp ⟨lk, li, ⟨lvk, lvn, lvt⟩⟩ ⟨rk, ri, ⟨rvk, rvn, rvt⟩⟩) w')) := fun w' => plain_calls (.mk op cmp ⟨lk, li, ⟨lvk, lvn, lvt⟩⟩ ⟨rk, ri, ⟨rvk, rvn, rvt⟩⟩ args) sa args.length sc w'
  show Calls _ _ #[.slice ca cn cc, .slice qa qn qc, .agg #[.int .i64 op, .int .i64 cmp, .int .i64 lk, .int .i64 li, .int .i64 lvk, .int .i64 lvn, .string lvt, .int .i64 rk, .int .i64 ri, .int .i64 rvk, .int .i64 rvn, .string rvt, .slice sa args.length sc]] _ _
  clear hres HC HQ
  by_cases h1 : op = 1
  · subst h1
    have HR : Hid ((plainB cmp ⟨lk, li, ⟨lvk, lvn, lvt⟩⟩ ⟨rk, ri, ⟨rvk, rvn, rvt⟩⟩ && decide (args.length = 0)) = res) := by
      show _ = _
      rw [← HE.out, ← rval_args (cols := cols) (par := par)]; unfold rnodeB; rw [if_pos (by omega)]
    clear HE HIH
    generalize plainB cmp ⟨lk, li, ⟨lvk, lvn, lvt⟩⟩ ⟨rk, ri, ⟨rvk, rvn, rvt⟩⟩ = x at HPL HR
    go_enter Tryd.func47, Tryd.ntmps47
    go_wp2_with fail
    rw [← HW.out]
    refine (HPL.out W).mono ?_
    rintro e w2 ⟨rfl, hg2⟩
    obtain ⟨l, b0, b1, b2, b3, b4, b5, b6, b7, b8, b9, b10, b11, b12⟩ := HBX.out.later hg2.below
    simp only [Pr.op, Pr.cmp, Pr.l, Pr.r, Pr.args] at b0 b1 b2 b3 b4 b5 b6 b7 b8 b9 b10 b11 b12
    have HG2 := Lib.hid (HG.out.trans hg2)
    clear hg2 HBX HW HPL
    generalize w.heap.size = gb at l b0 b1 b2 b3 b4 b5 b6 b7 b8 b9 b10 b11 b12 ⊢
    cases x with
    | false =>
      have HX : Hid (false = res) := HR.out
      go_wp2
      go_ret
      exact boolg HX.out HG2.out
    | true =>
      by_cases hz : args.length = 0
      · have HX : Hid (true = res) := by show _ = _; rw [← HR.out, decide_eq_true hz]; rfl
        have hz1 : ((args.length : Int) == 0) = true := by rw [beq_iff_eq]; omega
        go_wp2
        go_ret
        exact boolg HX.out HG2.out
      · have HX : Hid (false = res) := by show _ = _; rw [← HR.out, decide_eq_false hz]; rfl
        have hz1 : ((args.length : Int) == 0) = false := by rw [beq_eq_false_iff_ne]; omega
        go_wp2
        go_ret
        exact boolg HX.out HG2.out
  by_cases h2 : op = 2
  · subst h2
    have HR : Hid ((plainB cmp ⟨lk, li, ⟨lvk, lvn, lvt⟩⟩ ⟨rk, ri, ⟨rvk, rvn, rvt⟩⟩ && decide (args.length = 0)) = res) := by
      show _ = _
      rw [← HE.out, ← rval_args (cols := cols) (par := par)]; unfold rnodeB; rw [if_pos (by omega)]
    clear HE HIH
    generalize plainB cmp ⟨lk, li, ⟨lvk, lvn, lvt⟩⟩ ⟨rk, ri, ⟨rvk, rvn, rvt⟩⟩ = x at HPL HR
    go_enter Tryd.func47, Tryd.ntmps47
    go_wp2_with fail
    rw [← HW.out]
    refine (HPL.out W).mono ?_
    rintro e w2 ⟨rfl, hg2⟩
    obtain ⟨l, b0, b1, b2, b3, b4, b5, b6, b7, b8, b9, b10, b11, b12⟩ := HBX.out.later hg2.below
    simp only [Pr.op, Pr.cmp, Pr.l, Pr.r, Pr.args] at b0 b1 b2 b3 b4 b5 b6 b7 b8 b9 b10 b11 b12
    have HG2 := Lib.hid (HG.out.trans hg2)
    clear hg2 HBX HW HPL
    generalize w.heap.size = gb at l b0 b1 b2 b3 b4 b5 b6 b7 b8 b9 b10 b11 b12 ⊢
    cases x with
    | false =>
      have HX : Hid (false = res) := HR.out
      go_wp2
      go_ret
      exact boolg HX.out HG2.out
    | true =>
      by_cases hz : args.length = 0
      · have HX : Hid (true = res) := by show _ = _; rw [← HR.out, decide_eq_true hz]; rfl
        have hz1 : ((args.length : Int) == 0) = true := by rw [beq_iff_eq]; omega
        go_wp2
        go_ret
        exact boolg HX.out HG2.out
      · have HX : Hid (false = res) := by show _ = _; rw [← HR.out, decide_eq_false hz]; rfl
        have hz1 : ((args.length : Int) == 0) = false := by rw [beq_eq_false_iff_ne]; omega
        go_wp2
        go_ret
        exact boolg HX.out HG2.out
  by_cases h3 : op = 3
  · subst h3
    have HKL := Lib.hid (refKind_calls Sc Sp (.slice ca cn cc) (.slice qa qn qc) cols par ⟨lk, li, ⟨lvk, lvn, lvt⟩⟩ W (HRC.out _ (Below.refl _ _)) (HRQ.out _ (Below.refl _ _)))
    have HKR := Lib.hid (fun w' hw => refKind_calls Sc Sp (.slice ca cn cc) (.slice qa qn qc) cols par ⟨rk, ri, ⟨rvk, rvn, rvt⟩⟩ w' (HRC.out w' hw) (HRQ.out w' hw))
    have HR : Hid ((((decide (1 ≤ cmp) && decide (cmp ≤ 6)) && !decide (kindO cols par ⟨lk, li, ⟨lvk, lvn, lvt⟩⟩ = 0) && decide (kindO cols par ⟨lk, li, ⟨lvk, lvn, lvt⟩⟩ = kindO cols par ⟨rk, ri, ⟨rvk, rvn, rvt⟩⟩)) && decide (args.length = 0)) = res) := by
      show _ = _
      rw [← HE.out]
      have h := rval_args (cols := cols) (par := par) (args := args) (b := comparesB cols par cmp ⟨lk, li, ⟨lvk, lvn, lvt⟩⟩ ⟨rk, ri, ⟨rvk, rvn, rvt⟩⟩)
      unfold rnodeB
      rw [if_neg (by omega), if_pos rfl, h]; rfl
    clear HE HIH HPL
    generalize kindO cols par ⟨lk, li, ⟨lvk, lvn, lvt⟩⟩ = x at HKL HR
    generalize kindO cols par ⟨rk, ri, ⟨rvk, rvn, rvt⟩⟩ = y at HKR HR
    go_enter Tryd.func47, Tryd.ntmps47
    go_wp2_with fail
    rw [← HW.out]
    refine HKL.out.mono ?_
    rintro e w2 ⟨rfl, hg2⟩
    obtain ⟨l, b0, b1, b2, b3, b4, b5, b6, b7, b8, b9, b10, b11, b12⟩ := HBX.out.later hg2.below
    simp only [Pr.op, Pr.cmp, Pr.l, Pr.r, Pr.args] at b0 b1 b2 b3 b4 b5 b6 b7 b8 b9 b10 b11 b12
    have HG2 := Lib.hid hg2
    clear hg2 HW HKL
    generalize w.heap.size = gb at l b0 b1 b2 b3 b4 b5 b6 b7 b8 b9 b10 b11 b12 HBX ⊢
    by_cases hz : args.length = 0
    · have hz1 : ((args.length : Int) == 0) = true := by rw [beq_iff_eq]; omega
      by_cases hc1 : 1 ≤ cmp
      · have hd1 : decide ((1 : Int) ≤ cmp) = true := by simpa using hc1
        by_cases hc6 : cmp ≤ 6
        · have hd6 : decide (cmp ≤ 6) = true := by simpa using hc6
          by_cases hx : x = 0
          · have HX : Hid (false = res) := by show _ = _; rw [← HR.out, decide_eq_true hx]; simp
            have hx1 : (x == 0) = true := by simpa using hx
            go_wp2
            go_ret
            exact boolg HX.out (HG.out.trans HG2.out)
          · have HX : Hid (decide (x = y) = res) := by show _ = _; rw [← HR.out, hd1, hd6, decide_eq_false hx, decide_eq_true hz]; cases decide (x = y) <;> rfl
            have hx1 : (x == 0) = false := by simpa using hx
            go_wp2_with fail
            refine (HKR.out _ HG2.out.below).mono ?_
            rintro e w3 ⟨rfl, hg3⟩
            have HG3 := Lib.hid (HG.out.trans (HG2.out.trans hg3))
            clear hg3
            go_wp2
            go_ret
            exact boolg (by rw [← HX.out]; first | rfl | (rw [Bool.eq_iff_iff]; simp [hx])) HG3.out
        · have HX : Hid (false = res) := by show _ = _; rw [← HR.out, decide_eq_false hc6]; simp
          have hd6 : decide (cmp ≤ 6) = false := by simpa using hc6
          go_wp2
          go_ret
          exact boolg HX.out (HG.out.trans HG2.out)
      · have HX : Hid (false = res) := by show _ = _; rw [← HR.out, decide_eq_false hc1]; simp
        have hd1 : decide ((1 : Int) ≤ cmp) = false := by simpa using hc1
        go_wp2
        go_ret
        exact boolg HX.out (HG.out.trans HG2.out)
    · have HX : Hid (false = res) := by show _ = _; rw [← HR.out, decide_eq_false hz]; simp
      have hz1 : ((args.length : Int) == 0) = false := by rw [beq_eq_false_iff_ne]; omega
      go_wp2
      go_ret
      exact boolg HX.out (HG.out.trans HG2.out)
  by_cases h4 : op = 4
  · subst h4
    have HR : Hid ((plainB cmp ⟨lk, li, ⟨lvk, lvn, lvt⟩⟩ ⟨rk, ri, ⟨rvk, rvn, rvt⟩⟩ && !rbadL cols par args) = res) := by
      show _ = _
      rw [← HE.out]; unfold rnodeB; rw [if_neg (by omega), if_neg (by omega), if_pos (by omega)]
    clear HE 
    generalize plainB cmp ⟨lk, li, ⟨lvk, lvn, lvt⟩⟩ ⟨rk, ri, ⟨rvk, rvn, rvt⟩⟩ = x at HPL HR
    go_enter Tryd.func47, Tryd.ntmps47
    go_wp2_with fail
    rw [← HW.out]
    refine (HPL.out W).mono ?_
    rintro e w2 ⟨rfl, hg2⟩
    obtain ⟨l, b0, b1, b2, b3, b4, b5, b6, b7, b8, b9, b10, b11, b12⟩ := HBX.out.later hg2.below
    simp only [Pr.op, Pr.cmp, Pr.l, Pr.r, Pr.args] at b0 b1 b2 b3 b4 b5 b6 b7 b8 b9 b10 b11 b12
    have HG2 := Lib.hid hg2
    clear hg2 HPL HW
    generalize w.heap.size = gb at l b0 b1 b2 b3 b4 b5 b6 b7 b8 b9 b10 b11 b12 HBX ⊢
    cases x with
    | false =>
      have HX : Hid (false = res) := HR.out
      go_wp2
      go_ret
      exact boolg HX.out (HG.out.trans HG2.out)
    | true =>
      rw [Bool.true_and] at HR
      generalize hN : args.length = N at hsl HP b12 HBX  ⊢
      have HN := Lib.hid hN
      clear hN
      go_wp2_with fail
      go_loopw [8, 71] (fun _ i wr => ∃ j : Nat, j ≤ N ∧ i = .int .i64 j ∧ rbadL cols par (args.take j) = false ∧ Gro W wr) (fun _ i _ => N - (intOf i).toNat)
      case atStart => exact ⟨0, by omega, rfl, rfl, HG2.out⟩
      case round =>
        obtain ⟨j, hj, rfl, ht, hg⟩ := hrel
        have HT := Lib.hid ht
        have HGR := Lib.hid hg
        obtain ⟨l, b0, b1, b2, b3, b4, b5, b6, b7, b8, b9, b10, b11, b12⟩ := HBX.out.later hg.below
        simp only [Pr.op, Pr.cmp, Pr.l, Pr.r, Pr.args] at b0 b1 b2 b3 b4 b5 b6 b7 b8 b9 b10 b11 b12
        by_cases hlt : j < N
        · have hkl : j < args.length := by rw [HN.out]; exact hlt
          have hlt' : decide ((j : Int) < (N : Int)) = true := by simp; omega
          obtain ⟨b, off, s, rfl, hbl, -, hat, hr⟩ := (HP.out.later hg.below).get hkl
          have hc := HIH.out args[j] (List.getElem_mem hkl) s wr (HRC.out wr hg.below) (HRQ.out wr hg.below) hr
          have HTS : Hid (rbadL cols par (args.take (j + 1)) = (rbadL cols par (args.take j) || !validR cols par args[j])) := by
            show _ = _
            rw [rbadL_any, rbadL_any, List.take_succ_eq_append_getElem hkl, List.any_append]; simp
          have HME : Hid (∀ h : (!validR cols par args[j]) = true, rbadL cols par args = true) := fun h => by
            rw [rbadL_any, List.any_eq_true]; exact ⟨_, List.getElem_mem hkl, h⟩
          generalize args[j] = x at hat hc HTS HME
          generalize validR cols par x = q at hc HTS HME
          have HC := Lib.hid hc
          obtain ⟨d0, d1, d2, d3, d4, d5, d6, d7, d8, d9, d10, d11, d12⟩ := hat
          have hwk := step_i j (by omega)
          have HJ := Lib.hid hlt
          clear ht hg hr hc
          cases q with
          | true =>
            go_wp2_with fail
            refine HC.out.mono ?_
            rintro e w3 ⟨rfl, hg3⟩
            have HG3 := Lib.hid hg3
            clear hg3
            clear hlt' hlt hkl hj hsl b0 b1 b2 b3 b4 b5 b6 b7 b8 b9 b10 b11 b12 d0 d1 d2 d3 d4 d5 d6 d7 d8 d9 d10 d11 d12 l hbl 
            go_wp2
            generalize wrap64 ((j : Int) + 1) = z at hwk ⊢
            subst hwk
            have hjj := HJ.out
            exact ⟨⟨j + 1, by omega, by go_num, by rw [HTS.out, HT.out]; rfl, HGR.out.trans HG3.out⟩, by simp [intOf]; omega⟩
          | false =>
            have HX : Hid (false = res) := by show _ = _; rw [← HR.out, HME.out rfl]; rfl
            go_wp2_with fail
            refine HC.out.mono ?_
            rintro e w3 ⟨rfl, hg3⟩
            have HG3 := Lib.hid hg3
            clear hg3
            go_wp2
            go_ret
            exact boolg HX.out (HG.out.trans (HGR.out.trans HG3.out))
        · have hlt' : decide ((j : Int) < (N : Int)) = false := by simp; omega
          have HX : Hid (true = res) := by
            show _ = _
            rw [List.take_of_length_le (by have := HN.out; omega)] at ht
            rw [← HR.out, ht]; rfl
          clear ht hg
          go_wp2
          go_ret
          exact boolg HX.out (HG.out.trans HGR.out)
  by_cases h5 : op = 5
  · subst h5
    have HR : Hid ((plainB cmp ⟨lk, li, ⟨lvk, lvn, lvt⟩⟩ ⟨rk, ri, ⟨rvk, rvn, rvt⟩⟩ && !rbadL cols par args) = res) := by
      show _ = _
      rw [← HE.out]; unfold rnodeB; rw [if_neg (by omega), if_neg (by omega), if_pos (by omega)]
    clear HE 
    generalize plainB cmp ⟨lk, li, ⟨lvk, lvn, lvt⟩⟩ ⟨rk, ri, ⟨rvk, rvn, rvt⟩⟩ = x at HPL HR
    go_enter Tryd.func47, Tryd.ntmps47
    go_wp2_with fail
    rw [← HW.out]
    refine (HPL.out W).mono ?_
    rintro e w2 ⟨rfl, hg2⟩
    obtain ⟨l, b0, b1, b2, b3, b4, b5, b6, b7, b8, b9, b10, b11, b12⟩ := HBX.out.later hg2.below
    simp only [Pr.op, Pr.cmp, Pr.l, Pr.r, Pr.args] at b0 b1 b2 b3 b4 b5 b6 b7 b8 b9 b10 b11 b12
    have HG2 := Lib.hid hg2
    clear hg2 HPL HW
    generalize w.heap.size = gb at l b0 b1 b2 b3 b4 b5 b6 b7 b8 b9 b10 b11 b12 HBX ⊢
    cases x with
    | false =>
      have HX : Hid (false = res) := HR.out
      go_wp2
      go_ret
      exact boolg HX.out (HG.out.trans HG2.out)
    | true =>
      rw [Bool.true_and] at HR
      generalize hN : args.length = N at hsl HP b12 HBX  ⊢
      have HN := Lib.hid hN
      clear hN
      go_wp2_with fail
      go_loopw [8, 71] (fun _ i wr => ∃ j : Nat, j ≤ N ∧ i = .int .i64 j ∧ rbadL cols par (args.take j) = false ∧ Gro W wr) (fun _ i _ => N - (intOf i).toNat)
      case atStart => exact ⟨0, by omega, rfl, rfl, HG2.out⟩
      case round =>
        obtain ⟨j, hj, rfl, ht, hg⟩ := hrel
        have HT := Lib.hid ht
        have HGR := Lib.hid hg
        obtain ⟨l, b0, b1, b2, b3, b4, b5, b6, b7, b8, b9, b10, b11, b12⟩ := HBX.out.later hg.below
        simp only [Pr.op, Pr.cmp, Pr.l, Pr.r, Pr.args] at b0 b1 b2 b3 b4 b5 b6 b7 b8 b9 b10 b11 b12
        by_cases hlt : j < N
        · have hkl : j < args.length := by rw [HN.out]; exact hlt
          have hlt' : decide ((j : Int) < (N : Int)) = true := by simp; omega
          obtain ⟨b, off, s, rfl, hbl, -, hat, hr⟩ := (HP.out.later hg.below).get hkl
          have hc := HIH.out args[j] (List.getElem_mem hkl) s wr (HRC.out wr hg.below) (HRQ.out wr hg.below) hr
          have HTS : Hid (rbadL cols par (args.take (j + 1)) = (rbadL cols par (args.take j) || !validR cols par args[j])) := by
            show _ = _
            rw [rbadL_any, rbadL_any, List.take_succ_eq_append_getElem hkl, List.any_append]; simp
          have HME : Hid (∀ h : (!validR cols par args[j]) = true, rbadL cols par args = true) := fun h => by
            rw [rbadL_any, List.any_eq_true]; exact ⟨_, List.getElem_mem hkl, h⟩
          generalize args[j] = x at hat hc HTS HME
          generalize validR cols par x = q at hc HTS HME
          have HC := Lib.hid hc
          obtain ⟨d0, d1, d2, d3, d4, d5, d6, d7, d8, d9, d10, d11, d12⟩ := hat
          have hwk := step_i j (by omega)
          have HJ := Lib.hid hlt
          clear ht hg hr hc
          cases q with
          | true =>
            go_wp2_with fail
            refine HC.out.mono ?_
            rintro e w3 ⟨rfl, hg3⟩
            have HG3 := Lib.hid hg3
            clear hg3
            clear hlt' hlt hkl hj hsl b0 b1 b2 b3 b4 b5 b6 b7 b8 b9 b10 b11 b12 d0 d1 d2 d3 d4 d5 d6 d7 d8 d9 d10 d11 d12 l hbl 
            go_wp2
            generalize wrap64 ((j : Int) + 1) = z at hwk ⊢
            subst hwk
            have hjj := HJ.out
            exact ⟨⟨j + 1, by omega, by go_num, by rw [HTS.out, HT.out]; rfl, HGR.out.trans HG3.out⟩, by simp [intOf]; omega⟩
          | false =>
            have HX : Hid (false = res) := by show _ = _; rw [← HR.out, HME.out rfl]; rfl
            go_wp2_with fail
            refine HC.out.mono ?_
            rintro e w3 ⟨rfl, hg3⟩
            have HG3 := Lib.hid hg3
            clear hg3
            go_wp2
            go_ret
            exact boolg HX.out (HG.out.trans (HGR.out.trans HG3.out))
        · have hlt' : decide ((j : Int) < (N : Int)) = false := by simp; omega
          have HX : Hid (true = res) := by
            show _ = _
            rw [List.take_of_length_le (by have := HN.out; omega)] at ht
            rw [← HR.out, ht]; rfl
          clear ht hg
          go_wp2
          go_ret
          exact boolg HX.out (HG.out.trans HGR.out)
  by_cases h6 : op = 6
  · subst h6
    by_cases h61 : args.length = 1
    rotate_left
    · have HX : Hid (false = res) := by show _ = _; rw [← HE.out]; unfold rnodeB; rw [if_neg (by omega), if_neg (by omega), if_neg (by omega), if_pos rfl, decide_eq_false h61]; rfl
      have hz1 : ((args.length : Int) == 1) = false := by rw [beq_eq_false_iff_ne]; omega
      clear HE HIH HPL
      go_enter Tryd.func47, Tryd.ntmps47
      go_wp2
      go_ret
      rw [← HW.out]
      exact boolg HX.out HG.out
    have hz1 : ((args.length : Int) == 1) = true := by rw [beq_iff_eq]; omega
    have HR : Hid ((plainB cmp ⟨lk, li, ⟨lvk, lvn, lvt⟩⟩ ⟨rk, ri, ⟨rvk, rvn, rvt⟩⟩ && !rbadL cols par args) = res) := by
      show _ = _
      rw [← HE.out]; unfold rnodeB; rw [if_neg (by omega), if_neg (by omega), if_neg (by omega), if_pos rfl, decide_eq_true h61, Bool.true_and]
    clear HE h61
    generalize plainB cmp ⟨lk, li, ⟨lvk, lvn, lvt⟩⟩ ⟨rk, ri, ⟨rvk, rvn, rvt⟩⟩ = x at HPL HR
    go_enter Tryd.func47, Tryd.ntmps47
    go_wp2_with fail
    rw [← HW.out]
    refine (HPL.out W).mono ?_
    rintro e w2 ⟨rfl, hg2⟩
    obtain ⟨l, b0, b1, b2, b3, b4, b5, b6, b7, b8, b9, b10, b11, b12⟩ := HBX.out.later hg2.below
    simp only [Pr.op, Pr.cmp, Pr.l, Pr.r, Pr.args] at b0 b1 b2 b3 b4 b5 b6 b7 b8 b9 b10 b11 b12
    have HG2 := Lib.hid hg2
    clear hg2 HPL HW
    generalize w.heap.size = gb at l b0 b1 b2 b3 b4 b5 b6 b7 b8 b9 b10 b11 b12 HBX ⊢
    cases x with
    | false =>
      have HX : Hid (false = res) := HR.out
      go_wp2
      go_ret
      exact boolg HX.out (HG.out.trans HG2.out)
    | true =>
      rw [Bool.true_and] at HR
      generalize hN : args.length = N at hsl HP b12 HBX hz1 ⊢
      have HN := Lib.hid hN
      clear hN
      go_wp2_with fail
      go_loopw [8, 71] (fun _ i wr => ∃ j : Nat, j ≤ N ∧ i = .int .i64 j ∧ rbadL cols par (args.take j) = false ∧ Gro W wr) (fun _ i _ => N - (intOf i).toNat)
      case atStart => exact ⟨0, by omega, rfl, rfl, HG2.out⟩
      case round =>
        obtain ⟨j, hj, rfl, ht, hg⟩ := hrel
        have HT := Lib.hid ht
        have HGR := Lib.hid hg
        obtain ⟨l, b0, b1, b2, b3, b4, b5, b6, b7, b8, b9, b10, b11, b12⟩ := HBX.out.later hg.below
        simp only [Pr.op, Pr.cmp, Pr.l, Pr.r, Pr.args] at b0 b1 b2 b3 b4 b5 b6 b7 b8 b9 b10 b11 b12
        by_cases hlt : j < N
        · have hkl : j < args.length := by rw [HN.out]; exact hlt
          have hlt' : decide ((j : Int) < (N : Int)) = true := by simp; omega
          obtain ⟨b, off, s, rfl, hbl, -, hat, hr⟩ := (HP.out.later hg.below).get hkl
          have hc := HIH.out args[j] (List.getElem_mem hkl) s wr (HRC.out wr hg.below) (HRQ.out wr hg.below) hr
          have HTS : Hid (rbadL cols par (args.take (j + 1)) = (rbadL cols par (args.take j) || !validR cols par args[j])) := by
            show _ = _
            rw [rbadL_any, rbadL_any, List.take_succ_eq_append_getElem hkl, List.any_append]; simp
          have HME : Hid (∀ h : (!validR cols par args[j]) = true, rbadL cols par args = true) := fun h => by
            rw [rbadL_any, List.any_eq_true]; exact ⟨_, List.getElem_mem hkl, h⟩
          generalize args[j] = x at hat hc HTS HME
          generalize validR cols par x = q at hc HTS HME
          have HC := Lib.hid hc
          obtain ⟨d0, d1, d2, d3, d4, d5, d6, d7, d8, d9, d10, d11, d12⟩ := hat
          have hwk := step_i j (by omega)
          have HJ := Lib.hid hlt
          clear ht hg hr hc
          cases q with
          | true =>
            go_wp2_with fail
            refine HC.out.mono ?_
            rintro e w3 ⟨rfl, hg3⟩
            have HG3 := Lib.hid hg3
            clear hg3
            clear hlt' hlt hkl hj hsl b0 b1 b2 b3 b4 b5 b6 b7 b8 b9 b10 b11 b12 d0 d1 d2 d3 d4 d5 d6 d7 d8 d9 d10 d11 d12 l hbl hz1
            go_wp2
            generalize wrap64 ((j : Int) + 1) = z at hwk ⊢
            subst hwk
            have hjj := HJ.out
            exact ⟨⟨j + 1, by omega, by go_num, by rw [HTS.out, HT.out]; rfl, HGR.out.trans HG3.out⟩, by simp [intOf]; omega⟩
          | false =>
            have HX : Hid (false = res) := by show _ = _; rw [← HR.out, HME.out rfl]; rfl
            go_wp2_with fail
            refine HC.out.mono ?_
            rintro e w3 ⟨rfl, hg3⟩
            have HG3 := Lib.hid hg3
            clear hg3
            go_wp2
            go_ret
            exact boolg HX.out (HG.out.trans (HGR.out.trans HG3.out))
        · have hlt' : decide ((j : Int) < (N : Int)) = false := by simp; omega
          have HX : Hid (true = res) := by
            show _ = _
            rw [List.take_of_length_le (by have := HN.out; omega)] at ht
            rw [← HR.out, ht]; rfl
          clear ht hg
          go_wp2
          go_ret
          exact boolg HX.out (HG.out.trans HGR.out)
  have HX : Hid (false = res) := by show _ = _; rw [← HE.out]; unfold rnodeB; rw [if_neg (by omega), if_neg h3, if_neg (by omega), if_neg h6]; rfl
  go_enter Tryd.func47, Tryd.ntmps47
  go_wp2
  go_ret
  rw [← HW.out]
  exact boolg HX.out HG.out
theorem rvalid_at (S Sc Sp : Nat → Prop) (vc vp : Value) (cols par : List Int) : ∀ (k : Nat) (p : Pr), RValidAt S Sc Sp vc vp cols par k p
  | 0, p => fun s w hc hq hp => rvalid_step S Sc Sp vc vp cols par 0 p (fun q hq => by rw [hp.1] at hq; simp at hq) s w hc hq hp.deeper
  | k + 1, p => rvalid_step S Sc Sp vc vp cols par k p fun q _ => rvalid_at S Sc Sp vc vp cols par k q
end Go.Proofs.YtpmlhgakbpfgmaaDoor
