/- The contract of the reference's Equal. -/
import Derived.Test.YtndnlmpmloiiiaaDoorQt
set_option linter.unusedSimpArgs false
set_option linter.unusedVariables false
namespace Go.Proofs.YtndnlmpmloiiiaaDoor
open Go.RowKit

def REqAt (S S' : Nat → Prop) (k : Nat) (p : Pr) : Prop :=
  ∀ (q : Pr) (s t : Value) (w : World), PrIn S w k s p.args → PrIn S' w k t q.args → Calls Tryd.prog 20 #[p.val s, q.val t] w (BoolG (eqP p q) w)
set_option maxHeartbeats 8000000 in
set_option maxRecDepth 100000 in
theorem REqAt_step (S S' : Nat → Prop) (k : Nat) (p : Pr) (ih : ∀ x ∈ p.args, REqAt S S' k x) : REqAt S S' (k + 1) p := by
  intro q s t w hp hq
  have mx := mixed
  have HE := Lib.hid (eqP_eq p q)
  obtain ⟨sa, sc, rfl, hsl⟩ := hp.shape
  obtain ⟨ta, tc, rfl, htl⟩ := hq.shape
  obtain ⟨W, hW⟩ : ∃ W, W = (w.alloc (pBlock p (.slice sa p.args.length sc) 29)).alloc (pBlock q (.slice ta q.args.length tc) 29) := ⟨_, rfl⟩
  have hg : Gro w W := by rw [hW]; exact ((Gro.refl w).alloc _).alloc _
  have hx1 : PBox W w.heap.size p (.slice sa p.args.length sc) := by rw [hW]; exact (PBox.new w p _ _).later ((Below.refl _ _).alloc (Nat.le_refl _) _)
  have hx2 : PBox W (w.heap.size + 1) q (.slice ta q.args.length tc) := by
    have h := PBox.new (w.alloc (pBlock p (.slice sa p.args.length sc) 29)) q (.slice ta q.args.length tc) 29
    have e : (w.alloc (pBlock p (.slice sa p.args.length sc) 29)).heap.size = w.heap.size + 1 := by simp
    rw [e] at h; rw [hW]; exact h
  have HXA := Lib.hid hx1
  have HXB := Lib.hid hx2
  have HP := Lib.hid (hp.later hg.below)
  have HQ := Lib.hid (hq.later hg.below)
  have HG := Lib.hid hg
  have HIH := Lib.hid ih
  have HW := Lib.hid hW
  clear hp hq hg ih hW hx1 hx2
  obtain ⟨res, hres⟩ : ∃ res, eqP p q = res := ⟨_, rfl⟩
  rw [hres] at HE ⊢
  obtain ⟨aop, acmp, ⟨alk, ali, ⟨alvk, alvn, alvt⟩⟩, ⟨ark, ari, ⟨arvk, arvn, arvt⟩⟩, aargs⟩ := p
  obtain ⟨bop, bcmp, ⟨blk, bli, ⟨blvk, blvn, blvt⟩⟩, ⟨brk, bri, ⟨brvk, brvn, brvt⟩⟩, bargs⟩ := q
  replace HE : Hid (res = (decide (aop = bop) && decide (acmp = bcmp) && eqO ⟨alk, ali, ⟨alvk, alvn, alvt⟩⟩ ⟨blk, bli, ⟨blvk, blvn, blvt⟩⟩ && eqO ⟨ark, ari, ⟨arvk, arvn, arvt⟩⟩ ⟨brk, bri, ⟨brvk, brvn, brvt⟩⟩ && eqL aargs bargs)) := HE.out
  replace HW : Hid (W = (w.alloc (.cells #[.int .i64 aop, .int .i64 acmp, .int .i64 alk, .int .i64 ali, .int .i64 alvk, .int .i64 alvn, .string alvt, .int .i64 ark, .int .i64 ari, .int .i64 arvk, .int .i64 arvn, .string arvt, .slice sa aargs.length sc] 29)).alloc (.cells #[.int .i64 bop, .int .i64 bcmp, .int .i64 blk, .int .i64 bli, .int .i64 blvk, .int .i64 blvn, .string blvt, .int .i64 brk, .int .i64 bri, .int .i64 brvk, .int .i64 brvn, .string brvt, .slice ta bargs.length tc] 29)) := HW.out
  replace HP : Hid (PrIn S W (k + 1) (.slice sa aargs.length sc) aargs) := HP.out
  replace HQ : Hid (PrIn S' W (k + 1) (.slice ta bargs.length tc) bargs) := HQ.out
  replace hsl : aargs.length ≤ 4398046511104 := hsl
  replace htl : bargs.length ≤ 4398046511104 := htl
  replace HXA : Hid (PBox W w.heap.size (.mk aop acmp ⟨alk, ali, ⟨alvk, alvn, alvt⟩⟩ ⟨ark, ari, ⟨arvk, arvn, arvt⟩⟩ aargs) (.slice sa aargs.length sc)) := HXA.out
  replace HXB : Hid (PBox W (w.heap.size + 1) (.mk bop bcmp ⟨blk, bli, ⟨blvk, blvn, blvt⟩⟩ ⟨brk, bri, ⟨brvk, brvn, brvt⟩⟩ bargs) (.slice ta bargs.length tc)) := HXB.out
  replace HIH : Hid (∀ x ∈ aargs, REqAt S S' k x) := HIH.out
  show Calls _ _ #[.agg #[.int .i64 aop, .int .i64 acmp, .int .i64 alk, .int .i64 ali, .int .i64 alvk, .int .i64 alvn, .string alvt, .int .i64 ark, .int .i64 ari, .int .i64 arvk, .int .i64 arvn, .string arvt, .slice sa aargs.length sc], .agg #[.int .i64 bop, .int .i64 bcmp, .int .i64 blk, .int .i64 bli, .int .i64 blvk, .int .i64 blvn, .string blvt, .int .i64 brk, .int .i64 bri, .int .i64 brvk, .int .i64 brvn, .string brvt, .slice ta bargs.length tc]] _ _
  have hn1 := fun w => neq_O alk ali alvk alvn blk bli blvk blvn alvt blvt w
  have hn2 := fun w => neq_O ark ari arvk arvn brk bri brvk brvn arvt brvt w
  generalize hq1 : eqO ⟨alk, ali, ⟨alvk, alvn, alvt⟩⟩ ⟨blk, bli, ⟨blvk, blvn, blvt⟩⟩ = q1 at HE hn1
  generalize hq2 : eqO ⟨ark, ari, ⟨arvk, arvn, arvt⟩⟩ ⟨brk, bri, ⟨brvk, brvn, brvt⟩⟩ = q2 at HE hn2
  have HL := Lib.hid (show (aargs.length = bargs.length → True) from fun _ => trivial)
  clear hq1 hq2
  by_cases h0 : aop = bop
  · subst h0
    by_cases h1 : acmp = bcmp
    · subst h1
      cases q1
      · have HR : Hid (false = res) := by show _ = _; rw [HE.out]; simp
        have HGX : Gro w W := HG.out
        rw [HW.out] at HGX
        clear HXA HXB HP HQ HIH HW HG 
        have HGY := Lib.hid HGX
        clear HGX
        go_enter Tryd.func20, Tryd.ntmps20
        go_wp2
        go_ret
        exact boolg HR.out HGY.out
      · cases q2
        · have HR : Hid (false = res) := by show _ = _; rw [HE.out]; simp
          have HGX : Gro w W := HG.out
          rw [HW.out] at HGX
          clear HXA HXB HP HQ HIH HW HG 
          have HGY := Lib.hid HGX
          clear HGX
          go_enter Tryd.func20, Tryd.ntmps20
          go_wp2
          go_ret
          exact boolg HR.out HGY.out
        · replace HE : Hid (res = eqL aargs bargs) := by show _ = _; rw [HE.out]; simp
          by_cases hNM : aargs.length = bargs.length
          · generalize hN : aargs.length = N at hsl HP HW HXA hNM ⊢
            have hM : bargs.length = N := hNM.symm
            clear hNM
            rw [hM] at HQ HXB HW htl ⊢
            have HN := Lib.hid hN
            have HM := Lib.hid hM
            clear hN hM HL
            obtain ⟨la, a0, a1, a2, a3, a4, a5, a6, a7, a8, a9, a10, a11, a12⟩ := HXA.out
            simp only [Pr.op, Pr.cmp, Pr.l, Pr.r, Pr.args] at a0 a1 a2 a3 a4 a5 a6 a7 a8 a9 a10 a11 a12
            obtain ⟨lb, b0, b1, b2, b3, b4, b5, b6, b7, b8, b9, b10, b11, b12⟩ := HXB.out
            simp only [Pr.op, Pr.cmp, Pr.l, Pr.r, Pr.args] at b0 b1 b2 b3 b4 b5 b6 b7 b8 b9 b10 b11 b12
            go_enter Tryd.func20, Tryd.ntmps20
            go_upto_region 3 with fail
            rw [← HW.out]
            clear HW a0 a1 a2 a3 a4 a5 a6 a7 a8 a9 a10 a11 b0 b1 b2 b3 b4 b5 b6 b7 b8 b9 b10 b11
            generalize w.heap.size = g at la lb a12 b12 HXA HXB ⊢
            go_wp2_with fail
            go_loopw [5, 44] (fun _ i wr => ∃ j : Nat, j ≤ N ∧ i = .int .i64 j ∧ aargs.take j = bargs.take j ∧ Gro W wr) (fun _ i _ => N - (intOf i).toNat)
            case atStart => exact ⟨0, by omega, rfl, rfl, Gro.refl _⟩
            case round =>
              obtain ⟨j, hj, rfl, ht, hg⟩ := hrel
              obtain ⟨wo, rfl⟩ : ∃ wo : World, wo = wr := ⟨_, rfl⟩
              have HT := Lib.hid ht
              have HGR := Lib.hid hg
              have hwk := step_i j (by omega)
              clear a12 b12
              obtain ⟨la2, a0, a1, a2, a3, a4, a5, a6, a7, a8, a9, a10, a11, a12⟩ := HXA.out.later hg.below
              obtain ⟨lb2, b0, b1, b2, b3, b4, b5, b6, b7, b8, b9, b10, b11, b12⟩ := HXB.out.later hg.below
              simp only [Pr.op, Pr.cmp, Pr.l, Pr.r, Pr.args] at a0 a1 a2 a3 a4 a5 a6 a7 a8 a9 a10 a11 a12 b0 b1 b2 b3 b4 b5 b6 b7 b8 b9 b10 b11 b12
              clear a0 a1 a2 a3 a4 a5 a6 a7 a8 a9 a10 a11 b0 b1 b2 b3 b4 b5 b6 b7 b8 b9 b10 b11
              by_cases hlt : j < N
              · have hkl : j < aargs.length := by rw [HN.out]; exact hlt
                have hkm : j < bargs.length := by rw [HM.out]; exact hlt
                have hlt' : decide ((j : Int) < (N : Int)) = true := by simp; omega
                obtain ⟨xb, xo, xs, rfl, hxb, -, hxat, hxr⟩ := (HP.out.later hg.below).get hkl
                obtain ⟨yb, yo, ys, rfl, hyb, -, hyat, hyr⟩ := (HQ.out.later hg.below).get hkm
                obtain ⟨x, hx⟩ : ∃ x, aargs[j] = x := ⟨_, rfl⟩
                obtain ⟨y, hy⟩ : ∃ y, bargs[j] = y := ⟨_, rfl⟩
                have hih := HIH.out aargs[j] (List.getElem_mem hkl)
                rw [hx] at hxat hxr hih
                rw [hy] at hyat hyr
                have HTA : Hid (aargs.take (j + 1) = aargs.take j ++ [x]) := by show _ = _; rw [List.take_succ_eq_append_getElem hkl, hx]
                have HTB : Hid (bargs.take (j + 1) = bargs.take j ++ [y]) := by show _ = _; rw [List.take_succ_eq_append_getElem hkm, hy]
                obtain ⟨xa, xc, rfl, hxl⟩ := hxr.shape
                obtain ⟨ya, yc, rfl, hyl⟩ := hyr.shape
                have HC : Hid (Calls Tryd.prog 20 #[x.val (.slice xa x.args.length xc), y.val (.slice ya y.args.length yc)] wo.drew (BoolG (eqP x y) wo.drew)) := hih y _ _ wo.drew (hxr.later (Gro.refl wo).drew.below) (hyr.later (Gro.refl wo).drew.below)
                obtain ⟨qq, hqq⟩ : ∃ qq, eqP x y = qq := ⟨_, rfl⟩
                have HQQ := Lib.hid hqq
                rw [hqq] at HC
                have HXT := Lib.hid hxat
                have HYT := Lib.hid hyat
                have HBL : Hid (xb < wo.heap.size ∧ yb < wo.heap.size) := ⟨hxb, hyb⟩
                clear ht hg hx hy hih hxr hyr hqq hxat hyat hxb hyb
                obtain ⟨xop, xcmp, ⟨xlk, xli, ⟨xlvk, xlvn, xlvt⟩⟩, ⟨xrk, xri, ⟨xrvk, xrvn, xrvt⟩⟩, xargs⟩ := x
                obtain ⟨yop, ycmp, ⟨ylk, yli, ⟨ylvk, ylvn, ylvt⟩⟩, ⟨yrk, yri, ⟨yrvk, yrvn, yrvt⟩⟩, yargs⟩ := y
                replace HC : Hid (Calls Tryd.prog 20 #[.agg #[.int .i64 xop, .int .i64 xcmp, .int .i64 xlk, .int .i64 xli, .int .i64 xlvk, .int .i64 xlvn, .string xlvt, .int .i64 xrk, .int .i64 xri, .int .i64 xrvk, .int .i64 xrvn, .string xrvt, .slice xa xargs.length xc], .agg #[.int .i64 yop, .int .i64 ycmp, .int .i64 ylk, .int .i64 yli, .int .i64 ylvk, .int .i64 ylvn, .string ylvt, .int .i64 yrk, .int .i64 yri, .int .i64 yrvk, .int .i64 yrvn, .string yrvt, .slice ya yargs.length yc]] wo.drew (fun e w' => e = .returned (.bool qq) ∧ Gro wo.drew w')) := HC.out
                replace HXT : Hid (PrAt wo xb (xo + j * 13) (.mk xop xcmp ⟨xlk, xli, ⟨xlvk, xlvn, xlvt⟩⟩ ⟨xrk, xri, ⟨xrvk, xrvn, xrvt⟩⟩ xargs) (.slice xa xargs.length xc)) := HXT.out
                replace HYT : Hid (PrAt wo yb (yo + j * 13) (.mk yop ycmp ⟨ylk, yli, ⟨ylvk, ylvn, ylvt⟩⟩ ⟨yrk, yri, ⟨yrvk, yrvn, yrvt⟩⟩ yargs) (.slice ya yargs.length yc)) := HYT.out
                generalize xargs.length = XN at HC HXT hxl
                generalize yargs.length = YN at HC HYT hyl
                obtain ⟨c0, c1, c2, c3, c4, c5, c6, c7, c8, c9, c10, c11, c12⟩ := HXT.out
                obtain ⟨d0, d1, d2, d3, d4, d5, d6, d7, d8, d9, d10, d11, d12⟩ := HYT.out
                simp only [Pr.op, Pr.cmp, Pr.l, Pr.r, Pr.args] at c0 c1 c2 c3 c4 c5 c6 c7 c8 c9 c10 c11 c12 d0 d1 d2 d3 d4 d5 d6 d7 d8 d9 d10 d11 d12
                clear hxl hyl
                go_wp2_with fail
                refine wp_region_noPanic ?_
                refine wp_region_X (fun w' => w'.cell? ⟨g, 12, none⟩ = some (.slice (some ⟨xb, xo, none⟩) N sc) ∧ w'.cell? ⟨g + 1, 12, none⟩ = some (.slice (some ⟨yb, yo, none⟩) N tc) ∧ w'.cell? ⟨xb, xo + j * 13, none⟩ = some (.int .i64 xop) ∧ w'.cell? ⟨xb, xo + j * 13 + 1, none⟩ = some (.int .i64 xcmp) ∧ w'.cell? ⟨xb, xo + j * 13 + 2, none⟩ = some (.int .i64 xlk) ∧ w'.cell? ⟨xb, xo + j * 13 + 3, none⟩ = some (.int .i64 xli) ∧ w'.cell? ⟨xb, xo + j * 13 + 4, none⟩ = some (.int .i64 xlvk) ∧ w'.cell? ⟨xb, xo + j * 13 + 5, none⟩ = some (.int .i64 xlvn) ∧ w'.cell? ⟨xb, xo + j * 13 + 6, none⟩ = some (.string xlvt) ∧ w'.cell? ⟨xb, xo + j * 13 + 7, none⟩ = some (.int .i64 xrk) ∧ w'.cell? ⟨xb, xo + j * 13 + 8, none⟩ = some (.int .i64 xri) ∧ w'.cell? ⟨xb, xo + j * 13 + 9, none⟩ = some (.int .i64 xrvk) ∧ w'.cell? ⟨xb, xo + j * 13 + 10, none⟩ = some (.int .i64 xrvn) ∧ w'.cell? ⟨xb, xo + j * 13 + 11, none⟩ = some (.string xrvt) ∧ w'.cell? ⟨xb, xo + j * 13 + 12, none⟩ = some (.slice xa XN xc) ∧ w'.cell? ⟨yb, yo + j * 13, none⟩ = some (.int .i64 yop) ∧ w'.cell? ⟨yb, yo + j * 13 + 1, none⟩ = some (.int .i64 ycmp) ∧ w'.cell? ⟨yb, yo + j * 13 + 2, none⟩ = some (.int .i64 ylk) ∧ w'.cell? ⟨yb, yo + j * 13 + 3, none⟩ = some (.int .i64 yli) ∧ w'.cell? ⟨yb, yo + j * 13 + 4, none⟩ = some (.int .i64 ylvk) ∧ w'.cell? ⟨yb, yo + j * 13 + 5, none⟩ = some (.int .i64 ylvn) ∧ w'.cell? ⟨yb, yo + j * 13 + 6, none⟩ = some (.string ylvt) ∧ w'.cell? ⟨yb, yo + j * 13 + 7, none⟩ = some (.int .i64 yrk) ∧ w'.cell? ⟨yb, yo + j * 13 + 8, none⟩ = some (.int .i64 yri) ∧ w'.cell? ⟨yb, yo + j * 13 + 9, none⟩ = some (.int .i64 yrvk) ∧ w'.cell? ⟨yb, yo + j * 13 + 10, none⟩ = some (.int .i64 yrvn) ∧ w'.cell? ⟨yb, yo + j * 13 + 11, none⟩ = some (.string yrvt) ∧ w'.cell? ⟨yb, yo + j * 13 + 12, none⟩ = some (.slice ya YN yc)) 11 (by kernel_rfl) ?_ (fun hHeld => ?_)
                · (try dsimp only); go_keep
                try simp only [Act.put, List.setIfInBounds_toArray, List.set_cons_zero, List.set_cons_succ]
                refine wpX_take 0 (v := ?_) rfl (by kernel_rfl) (by kernel_rfl) (by kernel_rfl) (by kernel_rfl) (by kernel_rfl) (fun _ _ _ h => h) (Or.inl ⟨by rfl, ?_⟩) (by assumption) ?_
                rotate_left
                · intro w hSw; (try dsimp only at hSw); go_simp; try with_reducible rfl
                try simp only [Act.put, List.setIfInBounds_toArray, List.set_cons_zero, List.set_cons_succ]
                refine wpX_take 1 (v := ?_) rfl (by kernel_rfl) (by kernel_rfl) (by kernel_rfl) (by kernel_rfl) (by kernel_rfl) (fun _ _ _ h => h) (Or.inl ⟨by rfl, ?_⟩) (by assumption) ?_
                rotate_left
                · intro w hSw; (try dsimp only at hSw); go_simp; try with_reducible rfl
                try simp only [Act.put, List.setIfInBounds_toArray, List.set_cons_zero, List.set_cons_succ]
                refine wpX_take 2 (v := ?_) rfl (by kernel_rfl) (by kernel_rfl) (by kernel_rfl) (by kernel_rfl) (by kernel_rfl) (fun _ _ _ h => h) (Or.inl ⟨by rfl, ?_⟩) (by assumption) ?_
                rotate_left
                · intro w hSw; (try dsimp only at hSw); go_simp; try with_reducible rfl
                try simp only [Act.put, List.setIfInBounds_toArray, List.set_cons_zero, List.set_cons_succ]
                refine wpX_take 3 (v := ?_) rfl (by kernel_rfl) (by kernel_rfl) (by kernel_rfl) (by kernel_rfl) (by kernel_rfl) (fun _ _ _ h => h) (Or.inl ⟨by rfl, ?_⟩) (by assumption) ?_
                rotate_left
                · intro w hSw; (try dsimp only at hSw); go_simp; try with_reducible rfl
                try simp only [Act.put, List.setIfInBounds_toArray, List.set_cons_zero, List.set_cons_succ]
                refine wpX_take 4 (v := ?_) rfl (by kernel_rfl) (by kernel_rfl) (by kernel_rfl) (by kernel_rfl) (by kernel_rfl) (fun _ _ _ h => h) (Or.inl ⟨by rfl, ?_⟩) (by assumption) ?_
                rotate_left
                · intro w hSw; (try dsimp only at hSw); go_simp; try with_reducible rfl
                try simp only [Act.put, List.setIfInBounds_toArray, List.set_cons_zero, List.set_cons_succ]
                refine wpX_take 5 (v := ?_) rfl (by kernel_rfl) (by kernel_rfl) (by kernel_rfl) (by kernel_rfl) (by kernel_rfl) (fun _ _ _ h => h) (Or.inl ⟨by rfl, ?_⟩) (by assumption) ?_
                rotate_left
                · intro w hSw; (try dsimp only at hSw); go_simp; try with_reducible rfl
                try simp only [Act.put, List.setIfInBounds_toArray, List.set_cons_zero, List.set_cons_succ]
                refine wpX_take 6 (v := ?_) rfl (by kernel_rfl) (by kernel_rfl) (by kernel_rfl) (by kernel_rfl) (by kernel_rfl) (fun _ _ _ h => h) (Or.inl ⟨by rfl, ?_⟩) (by assumption) ?_
                rotate_left
                · intro w hSw; (try dsimp only at hSw); go_simp; try with_reducible rfl
                try simp only [Act.put, List.setIfInBounds_toArray, List.set_cons_zero, List.set_cons_succ]
                refine wpX_take 7 (v := ?_) rfl (by kernel_rfl) (by kernel_rfl) (by kernel_rfl) (by kernel_rfl) (by kernel_rfl) (fun _ _ _ h => h) (Or.inl ⟨by rfl, ?_⟩) (by assumption) ?_
                rotate_left
                · intro w hSw; (try dsimp only at hSw); go_simp; try with_reducible rfl
                try simp only [Act.put, List.setIfInBounds_toArray, List.set_cons_zero, List.set_cons_succ]
                refine wpX_take 8 (v := ?_) rfl (by kernel_rfl) (by kernel_rfl) (by kernel_rfl) (by kernel_rfl) (by kernel_rfl) (fun _ _ _ h => h) (Or.inl ⟨by rfl, ?_⟩) (by assumption) ?_
                rotate_left
                · intro w hSw; (try dsimp only at hSw); go_simp; try with_reducible rfl
                try simp only [Act.put, List.setIfInBounds_toArray, List.set_cons_zero, List.set_cons_succ]
                refine wpX_take 9 (v := ?_) rfl (by kernel_rfl) (by kernel_rfl) (by kernel_rfl) (by kernel_rfl) (by kernel_rfl) (fun _ _ _ h => h) (Or.inl ⟨by rfl, ?_⟩) (by assumption) ?_
                rotate_left
                · intro w hSw; (try dsimp only at hSw); go_simp; try with_reducible rfl
                try simp only [Act.put, List.setIfInBounds_toArray, List.set_cons_zero, List.set_cons_succ]
                refine wpX_one 10 (by kernel_rfl) rfl (fun K hK => ?_)
                go_simp
                go_at_call 20
                refine HC.out.mono ?_
                rintro e w7 ⟨rfl, hg7⟩
                have G7 : Gro wo w7 := (Gro.refl wo).drew.trans hg7
                obtain ⟨la7, e0, e1, e2, e3, e4, e5, e6, e7, e8, e9, e10, e11, e12⟩ := HXA.out.later (HGR.out.trans G7).below
                obtain ⟨lb7, f0, f1, f2, f3, f4, f5, f6, f7, f8, f9, f10, f11, f12⟩ := HXB.out.later (HGR.out.trans G7).below
                simp only [Pr.op, Pr.cmp, Pr.l, Pr.r, Pr.args] at e0 e1 e2 e3 e4 e5 e6 e7 e8 e9 e10 e11 e12 f0 f1 f2 f3 f4 f5 f6 f7 f8 f9 f10 f11 f12
                obtain ⟨m0, m1, m2, m3, m4, m5, m6, m7, m8, m9, m10, m11, m12⟩ := HXT.out.same (w' := w7) (fun o => World.cell?_of_block (G7.below.block xb HBL.out.1))
                obtain ⟨n0, n1, n2, n3, n4, n5, n6, n7, n8, n9, n10, n11, n12⟩ := HYT.out.same (w' := w7) (fun o => World.cell?_of_block (G7.below.block yb HBL.out.2))
                simp only [Pr.op, Pr.cmp, Pr.l, Pr.r, Pr.args] at m0 m1 m2 m3 m4 m5 m6 m7 m8 m9 m10 m11 m12 n0 n1 n2 n3 n4 n5 n6 n7 n8 n9 n10 n11 n12
                clear c0 c1 c2 c3 c4 c5 c6 c7 c8 c9 c10 c11 c12 d0 d1 d2 d3 d4 d5 d6 d7 d8 d9 d10 d11 d12
                have HG7 := Lib.hid (HGR.out.trans G7)
                clear hg7 G7 HC
                refine hK.out _ _ ?_ (fun hHeld => ?_)
                · (try dsimp only); go_keep
                clear hK K
                try simp only [Act.put, List.setIfInBounds_toArray, List.set_cons_zero, List.set_cons_succ]
                refine wpX_last 11 (by kernel_rfl) rfl rfl (by kernel_rfl) (fun K hK => ?_)
                go_simp
                refine hK.out _ _ ?_
                clear hK K
                refine NoPanic.normal ?_
                clear e0 e1 e2 e3 e4 e5 e6 e7 e8 e9 e10 e11 e12 f0 f1 f2 f3 f4 f5 f6 f7 f8 f9 f10 f11 f12 m0 m1 m2 m3 m4 m5 m6 m7 m8 m9 m10 m11 m12 n0 n1 n2 n3 n4 n5 n6 n7 n8 n9 n10 n11 n12 hHeld a12 b12
                cases qq with
                | true =>
                  have hxy := eqP_iff.1 HQQ.out
                  have HD : Hid (aargs.take (j + 1) = bargs.take (j + 1)) := by show _ = _; rw [HTA.out, HTB.out, HT.out, hxy]
                  clear hxy
                  go_wp2
                  exact ⟨⟨j + 1, by omega, by go_num, HD.out, HG7.out⟩, by simp [intOf]; omega⟩
                | false =>
                  have HR : Hid (false = res) := by
                    show _ = _
                    rw [HE.out]
                    by_cases he : eqL aargs bargs = true
                    · have h2 := eqL_iff.1 he
                      have h3 := HTA.out
                      rw [h2, HTB.out] at h3
                      have h4 := (List.append_inj' h3 rfl).2
                      have h5 := HQQ.out
                      rw [← (List.cons.inj h4).1, eqP_self] at h5
                      cases h5
                    · simpa using he
                  go_wp2
                  go_ret
                  exact boolg HR.out (HG.out.trans HG7.out)
              · have hlt' : decide ((j : Int) < (N : Int)) = false := by simp; omega
                have HR : Hid (true = res) := by
                  show _ = _
                  rw [List.take_of_length_le (by have := HN.out; omega), List.take_of_length_le (by have := HM.out; omega)] at ht
                  rw [HE.out, eqL_iff.2 ht]
                clear ht hg
                go_wp2
                go_ret
                exact boolg HR.out (HG.out.trans HGR.out)
          · have hNM' : ((aargs.length : Int) == (bargs.length : Int)) = false := by rw [beq_eq_false_iff_ne]; omega
            have hNM'' : ((aargs.length : Int) != (bargs.length : Int)) = true := by rw [bne_iff_ne]; omega
            have HR : Hid (false = res) := by
              show _ = _
              rw [HE.out]
              by_cases he : eqL aargs bargs = true
              · exact absurd (by rw [eqL_iff.1 he]) hNM
              · simpa using he
            have HGX : Gro w W := HG.out
            rw [HW.out] at HGX
            clear HXA HXB HP HQ HIH HW HG 
            have HGY := Lib.hid HGX
            clear HGX
            go_enter Tryd.func20, Tryd.ntmps20
            go_wp2
            go_ret
            exact boolg HR.out HGY.out
    · have h1' : (acmp == bcmp) = false := by simpa using h1
      have h1'' : (acmp != bcmp) = true := by simpa using h1
      have HR : Hid (false = res) := by show _ = _; rw [HE.out, decide_eq_false h1]; simp
      have HGX : Gro w W := HG.out
      rw [HW.out] at HGX
      clear HXA HXB HP HQ HIH HW HG 
      have HGY := Lib.hid HGX
      clear HGX
      go_enter Tryd.func20, Tryd.ntmps20
      go_wp2
      go_ret
      exact boolg HR.out HGY.out
  · have h0' : (aop == bop) = false := by simpa using h0
    have h0'' : (aop != bop) = true := by simpa using h0
    have HR : Hid (false = res) := by show _ = _; rw [HE.out, decide_eq_false h0]; simp
    have HGX : Gro w W := HG.out
    rw [HW.out] at HGX
    clear HXA HXB HP HQ HIH HW HG 
    have HGY := Lib.hid HGX
    clear HGX
    go_enter Tryd.func20, Tryd.ntmps20
    go_wp2
    go_ret
    exact boolg HR.out HGY.out
theorem REqAt_all (S S' : Nat → Prop) : ∀ (k : Nat) (p : Pr), REqAt S S' k p
  | 0, p => fun q s t w hp hq => REqAt_step S S' 0 p (fun x hx => by rw [hp.1] at hx; simp at hx) q s t w hp.deeper hq.deeper
  | k + 1, p => REqAt_step S S' k p fun x _ => REqAt_all S S' k x
end Go.Proofs.YtndnlmpmloiiiaaDoor
