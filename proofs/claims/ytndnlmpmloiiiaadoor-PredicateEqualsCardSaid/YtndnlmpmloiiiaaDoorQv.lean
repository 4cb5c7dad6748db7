/- The contract of predicate.Equal. -/
import Derived.Test.YtndnlmpmloiiiaaDoorQu
set_option linter.unusedSimpArgs false
set_option linter.unusedVariables false
namespace Go.Proofs.YtndnlmpmloiiiaaDoor
open Go.RowKit

def EqAt (S S' : Nat → Prop) (k : Nat) (p : Pr) : Prop :=
  ∀ (q : Pr) (s t : Value) (w : World), PrIn S w k s p.args → PrIn S' w k t q.args → Calls Tryd.prog 25 #[p.val s, q.val t] w (BoolG (eqP p q) w)
set_option maxHeartbeats 8000000 in
set_option maxRecDepth 100000 in
theorem equalFunc_calls (S S' : Nat → Prop) (k : Nat) (aargs bargs : List Pr) (ih : ∀ x ∈ aargs, EqAt S S' k x) (va vb : Value) (w : World) (hp : PrIn S w (k + 1) va aargs) (hq : PrIn S' w (k + 1) vb bargs) :
    Calls Tryd.prog 52 #[va, vb, .func (.func 25) #[] #[]] w (BoolG (eqL aargs bargs) w) := by
  obtain ⟨W, rfl⟩ : ∃ W, W = w := ⟨_, rfl⟩
  have HIH := Lib.hid ih
  obtain ⟨sa, sc, rfl, hsl⟩ := hp.shape
  obtain ⟨ta, tc, rfl, htl⟩ := hq.shape
  have HP := Lib.hid hp
  have HQ := Lib.hid hq
  clear ih hp hq
  obtain ⟨res, hres⟩ : ∃ res, eqL aargs bargs = res := ⟨_, rfl⟩
  rw [hres]
  have HE : Hid (res = eqL aargs bargs) := hres.symm
  clear hres
  by_cases hNM : aargs.length = bargs.length
  · generalize hN : aargs.length = N at hsl HP hNM ⊢
    have hM : bargs.length = N := hNM.symm
    clear hNM
    rw [hM] at HQ htl ⊢
    have HN := Lib.hid hN
    have HM := Lib.hid hM
    clear hN hM
    go_enter Tryd.func52, Tryd.ntmps52
    go_wp2_with fail
    go_loopw [7, 17] (fun _ i wr => ∃ j : Nat, j ≤ N ∧ i = .int .i64 j ∧ aargs.take j = bargs.take j ∧ Gro W wr) (fun _ i _ => N - (intOf i).toNat)
    case atStart => exact ⟨0, by omega, rfl, rfl, Gro.refl _⟩
    case round =>
      obtain ⟨j, hj, rfl, ht, hg⟩ := hrel
      obtain ⟨wo, rfl⟩ : ∃ wo : World, wo = wr := ⟨_, rfl⟩
      have HT := Lib.hid ht
      have HGR := Lib.hid hg
      have hwk := step_i j (by omega)
      by_cases hlt : j < N
      · have hkl : j < aargs.length := by rw [HN.out]; exact hlt
        have hkm : j < bargs.length := by rw [HM.out]; exact hlt
        have hlt' : decide ((j : Int) < (N : Int)) = true := by simp; omega
        obtain ⟨xb, xo, xs, rfl, hxb, -, hxat, hxr⟩ := (HP.out.later hg.below).get hkl
        obtain ⟨yb, yo, ys, rfl, hyb, -, hyat, hyr⟩ := (HQ.out.later hg.below).get hkm
        obtain ⟨x, hx⟩ : ∃ x, aargs[j] = x := ⟨_, rfl⟩
        obtain ⟨y, hy⟩ : ∃ y, bargs[j] = y := ⟨_, rfl⟩
        have hih := HIH.out aargs[j] (List.getElem_mem hkl)
        rw [hx] at hxat hxr hih
        rw [hy] at hyat hyr
        have HTA : Hid (aargs.take (j + 1) = aargs.take j ++ [x]) := by show _ = _; rw [List.take_succ_eq_append_getElem hkl, hx]
        have HTB : Hid (bargs.take (j + 1) = bargs.take j ++ [y]) := by show _ = _; rw [List.take_succ_eq_append_getElem hkm, hy]
        obtain ⟨xa, xc, rfl, hxl⟩ := hxr.shape
        obtain ⟨ya, yc, rfl, hyl⟩ := hyr.shape
        obtain ⟨w2, hw2⟩ : ∃ w2, w2 = (wo.alloc (pBlock x (.slice xa x.args.length xc) 29)).alloc (pBlock y (.slice ya y.args.length yc) 29) := ⟨_, rfl⟩
        have hg2 : Gro wo w2 := by rw [hw2]; exact ((Gro.refl wo).alloc _).alloc _
        have HC : Hid (Calls Tryd.prog 25 #[x.val (.slice xa x.args.length xc), y.val (.slice ya y.args.length yc)] w2 (BoolG (eqP x y) w2)) := hih y _ _ w2 (hxr.later hg2.below) (hyr.later hg2.below)
        obtain ⟨qq, hqq⟩ : ∃ qq, eqP x y = qq := ⟨_, rfl⟩
        have HQQ := Lib.hid hqq
        rw [hqq] at HC
        have HXT := Lib.hid hxat
        have HYT := Lib.hid hyat
        have HG2 := Lib.hid (HGR.out.trans hg2)
        have HW2 := Lib.hid hw2
        clear ht hg hx hy hih hxr hyr hqq hxat hyat hg2 hw2
        obtain ⟨xop, xcmp, ⟨xlk, xli, ⟨xlvk, xlvn, xlvt⟩⟩, ⟨xrk, xri, ⟨xrvk, xrvn, xrvt⟩⟩, xargs⟩ := x
        obtain ⟨yop, ycmp, ⟨ylk, yli, ⟨ylvk, ylvn, ylvt⟩⟩, ⟨yrk, yri, ⟨yrvk, yrvn, yrvt⟩⟩, yargs⟩ := y
        replace HC : Hid (Calls Tryd.prog 25 #[.agg #[.int .i64 xop, .int .i64 xcmp, .int .i64 xlk, .int .i64 xli, .int .i64 xlvk, .int .i64 xlvn, .string xlvt, .int .i64 xrk, .int .i64 xri, .int .i64 xrvk, .int .i64 xrvn, .string xrvt, .slice xa xargs.length xc], .agg #[.int .i64 yop, .int .i64 ycmp, .int .i64 ylk, .int .i64 yli, .int .i64 ylvk, .int .i64 ylvn, .string ylvt, .int .i64 yrk, .int .i64 yri, .int .i64 yrvk, .int .i64 yrvn, .string yrvt, .slice ya yargs.length yc]] w2 (fun e w' => e = .returned (.bool qq) ∧ Gro w2 w')) := HC.out
        replace HXT : Hid (PrAt wo xb (xo + j * 13) (.mk xop xcmp ⟨xlk, xli, ⟨xlvk, xlvn, xlvt⟩⟩ ⟨xrk, xri, ⟨xrvk, xrvn, xrvt⟩⟩ xargs) (.slice xa xargs.length xc)) := HXT.out
        replace HYT : Hid (PrAt wo yb (yo + j * 13) (.mk yop ycmp ⟨ylk, yli, ⟨ylvk, ylvn, ylvt⟩⟩ ⟨yrk, yri, ⟨yrvk, yrvn, yrvt⟩⟩ yargs) (.slice ya yargs.length yc)) := HYT.out
        replace HW2 : Hid (w2 = (wo.alloc (.cells #[.int .i64 xop, .int .i64 xcmp, .int .i64 xlk, .int .i64 xli, .int .i64 xlvk, .int .i64 xlvn, .string xlvt, .int .i64 xrk, .int .i64 xri, .int .i64 xrvk, .int .i64 xrvn, .string xrvt, .slice xa xargs.length xc] 29)).alloc (.cells #[.int .i64 yop, .int .i64 ycmp, .int .i64 ylk, .int .i64 yli, .int .i64 ylvk, .int .i64 ylvn, .string ylvt, .int .i64 yrk, .int .i64 yri, .int .i64 yrvk, .int .i64 yrvn, .string yrvt, .slice ya yargs.length yc] 29)) := HW2.out
        generalize xargs.length = XN at HC HXT hxl HW2
        generalize yargs.length = YN at HC HYT hyl HW2
        obtain ⟨c0, c1, c2, c3, c4, c5, c6, c7, c8, c9, c10, c11, c12⟩ := HXT.out
        obtain ⟨d0, d1, d2, d3, d4, d5, d6, d7, d8, d9, d10, d11, d12⟩ := HYT.out
        simp only [Pr.op, Pr.cmp, Pr.l, Pr.r, Pr.args] at c0 c1 c2 c3 c4 c5 c6 c7 c8 c9 c10 c11 c12 d0 d1 d2 d3 d4 d5 d6 d7 d8 d9 d10 d11 d12
        clear hxl hyl HXT HYT
        cases qq with
        | true =>
          have hxy := eqP_iff.1 HQQ.out
          have HD : Hid (aargs.take (j + 1) = bargs.take (j + 1)) := by show _ = _; rw [HTA.out, HTB.out, HT.out, hxy]
          clear hxy
          go_wp2_with fail
          rw [← HW2.out]
          refine HC.out.mono ?_
          rintro e w7 ⟨rfl, hg7⟩
          have HG7 := Lib.hid (HG2.out.trans hg7)
          clear hg7 c0 c1 c2 c3 c4 c5 c6 c7 c8 c9 c10 c11 c12 d0 d1 d2 d3 d4 d5 d6 d7 d8 d9 d10 d11 d12
          go_wp2
          exact ⟨⟨j + 1, by omega, by go_num, HD.out, HG7.out⟩, by simp [intOf]; omega⟩
        | false =>
          have HR : Hid (false = res) := by
            show _ = _
            rw [HE.out]
            by_cases he : eqL aargs bargs = true
            · have h2 := eqL_iff.1 he
              have h3 := HTA.out
              rw [h2, HTB.out] at h3
              have h4 := (List.append_inj' h3 rfl).2
              have h5 := HQQ.out
              rw [← (List.cons.inj h4).1, eqP_self] at h5
              cases h5
            · simpa using he
          go_wp2_with fail
          rw [← HW2.out]
          refine HC.out.mono ?_
          rintro e w7 ⟨rfl, hg7⟩
          have HG7 := Lib.hid (HG2.out.trans hg7)
          clear hg7 c0 c1 c2 c3 c4 c5 c6 c7 c8 c9 c10 c11 c12 d0 d1 d2 d3 d4 d5 d6 d7 d8 d9 d10 d11 d12
          go_wp2
          go_ret
          exact boolg HR.out HG7.out
      · have hlt' : decide ((j : Int) < (N : Int)) = false := by simp; omega
        have HR : Hid (true = res) := by
          show _ = _
          rw [List.take_of_length_le (by have := HN.out; omega), List.take_of_length_le (by have := HM.out; omega)] at ht
          rw [HE.out, eqL_iff.2 ht]
        clear ht hg
        go_wp2
        go_ret
        exact boolg HR.out HGR.out
  · have hNM' : ((aargs.length : Int) == (bargs.length : Int)) = false := by rw [beq_eq_false_iff_ne]; omega
    have hNM'' : ((aargs.length : Int) != (bargs.length : Int)) = true := by rw [bne_iff_ne]; omega
    have HR : Hid (false = res) := by
      show _ = _
      rw [HE.out]
      by_cases he : eqL aargs bargs = true
      · exact absurd (by rw [eqL_iff.1 he]) hNM
      · simpa using he
    clear HP HQ HIH HE
    go_enter Tryd.func52, Tryd.ntmps52
    go_wp2
    go_ret
    exact boolg HR.out (Gro.refl _)
set_option maxHeartbeats 8000000 in
set_option maxRecDepth 100000 in
theorem EqAt_step (S S' : Nat → Prop) (k : Nat) (p : Pr) (ih : ∀ x ∈ p.args, EqAt S S' k x) : EqAt S S' (k + 1) p := by
  intro q s t w hp hq
  have mx := mixed
  have HE := Lib.hid (eqP_eq p q)
  obtain ⟨sa, sc, rfl, hsl⟩ := hp.shape
  obtain ⟨ta, tc, rfl, htl⟩ := hq.shape
  obtain ⟨W, hW⟩ : ∃ W, W = (w.alloc (pBlock p (.slice sa p.args.length sc) 29)).alloc (pBlock q (.slice ta q.args.length tc) 29) := ⟨_, rfl⟩
  have hg : Gro w W := by rw [hW]; exact ((Gro.refl w).alloc _).alloc _
  have hx1 : PBox W w.heap.size p (.slice sa p.args.length sc) := by rw [hW]; exact (PBox.new w p _ _).later ((Below.refl _ _).alloc (Nat.le_refl _) _)
  have hx2 : PBox W (w.heap.size + 1) q (.slice ta q.args.length tc) := by
    have h := PBox.new (w.alloc (pBlock p (.slice sa p.args.length sc) 29)) q (.slice ta q.args.length tc) 29
    have e : (w.alloc (pBlock p (.slice sa p.args.length sc) 29)).heap.size = w.heap.size + 1 := by simp
    rw [e] at h; rw [hW]; exact h
  have HXA := Lib.hid hx1
  have HXB := Lib.hid hx2
  have HP := Lib.hid (hp.later hg.below)
  have HQ := Lib.hid (hq.later hg.below)
  have HG := Lib.hid hg
  have HIH := Lib.hid ih
  have HW := Lib.hid hW
  clear hp hq hg ih hW hx1 hx2
  obtain ⟨res, hres⟩ : ∃ res, eqP p q = res := ⟨_, rfl⟩
  rw [hres] at HE ⊢
  obtain ⟨aop, acmp, ⟨alk, ali, ⟨alvk, alvn, alvt⟩⟩, ⟨ark, ari, ⟨arvk, arvn, arvt⟩⟩, aargs⟩ := p
  obtain ⟨bop, bcmp, ⟨blk, bli, ⟨blvk, blvn, blvt⟩⟩, ⟨brk, bri, ⟨brvk, brvn, brvt⟩⟩, bargs⟩ := q
  replace HE : Hid (res = (decide (aop = bop) && decide (acmp = bcmp) && eqO ⟨alk, ali, ⟨alvk, alvn, alvt⟩⟩ ⟨blk, bli, ⟨blvk, blvn, blvt⟩⟩ && eqO ⟨ark, ari, ⟨arvk, arvn, arvt⟩⟩ ⟨brk, bri, ⟨brvk, brvn, brvt⟩⟩ && eqL aargs bargs)) := HE.out
  replace HW : Hid (W = (w.alloc (.cells #[.int .i64 aop, .int .i64 acmp, .int .i64 alk, .int .i64 ali, .int .i64 alvk, .int .i64 alvn, .string alvt, .int .i64 ark, .int .i64 ari, .int .i64 arvk, .int .i64 arvn, .string arvt, .slice sa aargs.length sc] 29)).alloc (.cells #[.int .i64 bop, .int .i64 bcmp, .int .i64 blk, .int .i64 bli, .int .i64 blvk, .int .i64 blvn, .string blvt, .int .i64 brk, .int .i64 bri, .int .i64 brvk, .int .i64 brvn, .string brvt, .slice ta bargs.length tc] 29)) := HW.out
  replace HP : Hid (PrIn S W (k + 1) (.slice sa aargs.length sc) aargs) := HP.out
  replace HQ : Hid (PrIn S' W (k + 1) (.slice ta bargs.length tc) bargs) := HQ.out
  replace hsl : aargs.length ≤ 4398046511104 := hsl
  replace htl : bargs.length ≤ 4398046511104 := htl
  replace HXA : Hid (PBox W w.heap.size (.mk aop acmp ⟨alk, ali, ⟨alvk, alvn, alvt⟩⟩ ⟨ark, ari, ⟨arvk, arvn, arvt⟩⟩ aargs) (.slice sa aargs.length sc)) := HXA.out
  replace HXB : Hid (PBox W (w.heap.size + 1) (.mk bop bcmp ⟨blk, bli, ⟨blvk, blvn, blvt⟩⟩ ⟨brk, bri, ⟨brvk, brvn, brvt⟩⟩ bargs) (.slice ta bargs.length tc)) := HXB.out
  replace HIH : Hid (∀ x ∈ aargs, EqAt S S' k x) := HIH.out
  show Calls _ _ #[.agg #[.int .i64 aop, .int .i64 acmp, .int .i64 alk, .int .i64 ali, .int .i64 alvk, .int .i64 alvn, .string alvt, .int .i64 ark, .int .i64 ari, .int .i64 arvk, .int .i64 arvn, .string arvt, .slice sa aargs.length sc], .agg #[.int .i64 bop, .int .i64 bcmp, .int .i64 blk, .int .i64 bli, .int .i64 blvk, .int .i64 blvn, .string blvt, .int .i64 brk, .int .i64 bri, .int .i64 brvk, .int .i64 brvn, .string brvt, .slice ta bargs.length tc]] _ _
  have hn1 := fun w => eql_O alk ali alvk alvn blk bli blvk blvn alvt blvt w
  have hn2 := fun w => eql_O ark ari arvk arvn brk bri brvk brvn arvt brvt w
  generalize hq1 : eqO ⟨alk, ali, ⟨alvk, alvn, alvt⟩⟩ ⟨blk, bli, ⟨blvk, blvn, blvt⟩⟩ = q1 at HE hn1
  generalize hq2 : eqO ⟨ark, ari, ⟨arvk, arvn, arvt⟩⟩ ⟨brk, bri, ⟨brvk, brvn, brvt⟩⟩ = q2 at HE hn2
  have HL := Lib.hid (show (aargs.length = bargs.length → True) from fun _ => trivial)
  clear hq1 hq2
  by_cases h0 : aop = bop
  · subst h0
    by_cases h1 : acmp = bcmp
    · subst h1
      cases q1
      · have HR : Hid (false = res) := by show _ = _; rw [HE.out]; simp
        have HGX : Gro w W := HG.out
        rw [HW.out] at HGX
        clear HXA HXB HP HQ HIH HW HG 
        have HGY := Lib.hid HGX
        clear HGX
        go_enter Tryd.func25, Tryd.ntmps25
        go_wp2
        go_ret
        exact boolg HR.out HGY.out
      · cases q2
        · have HR : Hid (false = res) := by show _ = _; rw [HE.out]; simp
          have HGX : Gro w W := HG.out
          rw [HW.out] at HGX
          clear HXA HXB HP HQ HIH HW HG 
          have HGY := Lib.hid HGX
          clear HGX
          go_enter Tryd.func25, Tryd.ntmps25
          go_wp2
          go_ret
          exact boolg HR.out HGY.out
        · replace HE : Hid (res = eqL aargs bargs) := by show _ = _; rw [HE.out]; simp
          have HF : Hid (Calls Tryd.prog 52 #[.slice sa aargs.length sc, .slice ta bargs.length tc, .func (.func 25) #[] #[]] W (BoolG (eqL aargs bargs) W)) := equalFunc_calls S S' k aargs bargs HIH.out _ _ W HP.out HQ.out
          rw [← HE.out] at HF
          generalize aargs.length = N at HF HW
          generalize bargs.length = M at HF HW
          clear HXA HXB HP HQ HIH HL HE hsl htl
          go_enter Tryd.func25, Tryd.ntmps25
          go_wp2_with fail
          rw [← HW.out]
          refine HF.out.mono ?_
          rintro e w2 ⟨rfl, hg2⟩
          have HG2 := Lib.hid (HG.out.trans hg2)
          clear hg2 HF HW
          cases res <;>
            (go_wp2
             go_ret
             exact boolg rfl HG2.out)
    · have h1' : (acmp == bcmp) = false := by simpa using h1
      have h1'' : (acmp != bcmp) = true := by simpa using h1
      have HR : Hid (false = res) := by show _ = _; rw [HE.out, decide_eq_false h1]; simp
      have HGX : Gro w W := HG.out
      rw [HW.out] at HGX
      clear HXA HXB HP HQ HIH HW HG 
      have HGY := Lib.hid HGX
      clear HGX
      go_enter Tryd.func25, Tryd.ntmps25
      go_wp2
      go_ret
      exact boolg HR.out HGY.out
  · have h0' : (aop == bop) = false := by simpa using h0
    have h0'' : (aop != bop) = true := by simpa using h0
    have HR : Hid (false = res) := by show _ = _; rw [HE.out, decide_eq_false h0]; simp
    have HGX : Gro w W := HG.out
    rw [HW.out] at HGX
    clear HXA HXB HP HQ HIH HW HG 
    have HGY := Lib.hid HGX
    clear HGX
    go_enter Tryd.func25, Tryd.ntmps25
    go_wp2
    go_ret
    exact boolg HR.out HGY.out
theorem EqAt_all (S S' : Nat → Prop) : ∀ (k : Nat) (p : Pr), EqAt S S' k p
  | 0, p => fun q s t w hp hq => EqAt_step S S' 0 p (fun x hx => by rw [hp.1] at hx; simp at hx) q s t w hp.deeper hq.deeper
  | k + 1, p => EqAt_step S S' k p fun x _ => EqAt_all S S' k x
end Go.Proofs.YtndnlmpmloiiiaaDoor
