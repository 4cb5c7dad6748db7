/- The contracts of the reference's Ordered and Valid. -/
import Derived.Test.YtmjokpakekfkfaaVd
set_option linter.unusedSimpArgs false
set_option linter.unusedVariables false
namespace Go.Proofs.Ytmjokpakekfkfaa
open Go.RowKit

/-- Canonical as far as has been looked, and open at the end alone. -/
def OkR (l : List I) (k : Nat) : Prop := OkTo l k ∧ ∀ i (h : i < l.length), i < k → l[i].o = true → i + 1 = l.length
theorem okR_zero (l : List I) : OkR l 0 := ⟨okTo_zero l, fun i h hi => absurd hi (Nat.not_lt_zero _)⟩
theorem okR_next {l : List I} {k : Nat} (h : OkR l k) (hk : k < l.length) (h1 : partB l[k] = true) (ho : l[k].o = true → k + 1 = l.length) (h2 : ∀ h0 : 0 < k, cmpV (l[k - 1]'(by omega)).t l[k].f < 0) : OkR l (k + 1) := by
  refine ⟨okTo_next h.1 hk h1 fun h0 => sepB_iff.2 ⟨?_, h2 h0⟩, fun i hi hik hoi => ?_⟩
  · rw [Bool.eq_false_iff]
    intro hc
    have := h.2 (k - 1) (by omega) (by omega) hc
    omega
  · by_cases e : i = k
    · subst e; exact ho hoi
    · exact h.2 i hi (by omega) hoi
theorem ord_open {l : List I} {k : Nat} (hk : k + 1 < l.length) (h : (l[k]'(by omega)).o = true) : ordB l = false := ord_gap hk (by unfold sepB; rw [h]; rfl)
theorem ord_cmp {l : List I} {k : Nat} (hk : k + 1 < l.length) (h : ¬ cmpV (l[k]'(by omega)).t l[k + 1].f < 0) : ordB l = false := ord_gap hk (by unfold sepB; simp [h])

set_option maxHeartbeats 4000000 in
set_option maxRecDepth 100000 in
theorem ordered_calls (v : Value) (l : List I) (w : World) (h : IvAt w v l) : Calls Try.prog 38 #[v] w fun e w' => e = .returned (.bool (ordB l)) ∧ Gro w w' := by
  have mx := mixed
  obtain ⟨pa, ca, rfl, la, ha⟩ := h
  obtain ⟨w0, rfl⟩ : ∃ w0, w0 = w := ⟨_, rfl⟩
  have HA := Lib.hid ha
  generalize hN : l.length = N at la
  have HN := Lib.hid hN
  clear ha hN
  go_enter Try.func38, Try.ntmps38
  go_wp2_with fail
  go_loopw [3, 4, 7] (fun _ _ i wr => ∃ k : Nat, k ≤ N ∧ i = .int .i64 k ∧ OkR l k ∧ Gro w0 wr) (fun _ _ i _ => N - (intOf i).toNat)
  case atStart => exact ⟨0, by omega, rfl, okR_zero l, Gro.refl _⟩
  case round =>
    obtain ⟨k, hk, rfl, hok, hg⟩ := hrel
    have HG := Lib.hid hg
    have HOK := Lib.hid hok
    by_cases hlt : k < N
    · have hkl : k < l.length := by rw [HN.out]; exact hlt
      have hlt' : decide ((k : Int) < (N : Int)) = true := by simp; omega
      have hwk := step_int k (by omega)
      obtain ⟨b, off, rfl, hri⟩ := HA.out.resolve_left (by rintro rfl; simp at hkl)
      have hat := (hri.later hg.below).at_ k hkl
      have hbl := (hri.later hg.below).blk
      obtain ⟨x, hx⟩ : ∃ x, l[k] = x := ⟨_, rfl⟩
      rw [hx] at hat
      obtain ⟨⟨e0, e1, e2⟩, e3, e4, e5, e6⟩ := hat
      have HX := Lib.hid hx
      have HRI := Lib.hid hri
      have HW : Hid (k = 0 ∨ ∃ j, k = j + 1) := by show _ ∨ _; rcases k with _ | j
                                                   · exact .inl rfl
                                                   · exact .inr ⟨j, rfl⟩
      obtain ⟨⟨xk, xn, xt⟩, ⟨yk, yn, yt⟩, xo⟩ := x
      simp only at e0 e1 e2 e3 e4 e5 e6
      have HV1 := Lib.hid (fun w' => wide (refValid_calls ⟨xk, xn, xt⟩ w'))
      have HV2 := Lib.hid (fun w' => wide (refValid_calls ⟨yk, yn, yt⟩ w'))
      have HCM := Lib.hid (fun w' => wide (refCompare_calls ⟨xk, xn, xt⟩ ⟨yk, yn, yt⟩ w'))
      obtain ⟨b1, hb1⟩ : ∃ b1, validB ⟨xk, xn, xt⟩ = b1 := ⟨_, rfl⟩
      obtain ⟨b2, hb2⟩ : ∃ b2, validB ⟨yk, yn, yt⟩ = b2 := ⟨_, rfl⟩
      obtain ⟨d, hd⟩ : ∃ d, cmpV ⟨xk, xn, xt⟩ ⟨yk, yn, yt⟩ = d := ⟨_, rfl⟩
      obtain ⟨bz, hbz⟩ : ∃ bz, decide ((⟨yk, yn, yt⟩ : V) = zV) = bz := ⟨_, rfl⟩
      rw [hb1] at HV1
      rw [hb2] at HV2
      rw [hd] at HCM
      have HB1 := Lib.hid hb1
      have HB2 := Lib.hid hb2
      have HDD := Lib.hid hd
      have HBZ := Lib.hid hbz
      have he : ∀ w, (binOp .neq 25 (.agg #[.int .i64 yk, .int .i64 yn, .string yt]) (.agg #[.int .i64 0, .int .i64 0, .string ⟨#[]⟩])).run Try.prog w = .ok (.bool (!bz)) w := fun w => by rw [neq_V, eq_zero, hbz]
      have HE := Lib.hid he
      have HPC : Hid (partB ⟨⟨xk, xn, xt⟩, ⟨yk, yn, yt⟩, false⟩ = (b1 && b2 && decide (d < 0))) := by show _ = _; unfold partB; rw [if_neg (by simp)]; simp only [hb1, hb2, hd]
      have HPO : Hid (partB ⟨⟨xk, xn, xt⟩, ⟨yk, yn, yt⟩, true⟩ = (b1 && bz)) := by show _ = _; unfold partB; rw [if_pos (by simp)]; simp only [hb1, hbz]
      clear hg hok hx hri hb1 hb2 hd hbz he
      cases b1
      · have HR : Hid (ordB l = false) := ord_bad hkl (by rw [HX.out]; cases xo <;> first | (rw [HPC.out]; rfl) | (rw [HPO.out]; rfl))
        go_wp2_with fail
        obtain ⟨W1, hW1⟩ : ∃ W1, W1 = wr.alloc (.cells #[.int .i64 xk, .int .i64 xn, .string xt, .int .i64 yk, .int .i64 yn, .string yt, .bool xo] 57) := ⟨_, rfl⟩
        have hB : IAt W1 wr.heap.size 0 ⟨⟨xk, xn, xt⟩, ⟨yk, yn, yt⟩, xo⟩ := by rw [hW1]; exact ⟨⟨by go_simp, by go_simp, by go_simp⟩, by go_simp, by go_simp, by go_simp, by go_simp⟩
        have hlB : wr.heap.size < W1.heap.size := by rw [hW1]; simp
        have HG1 : Hid (Gro w0 W1) := by show Gro _ _; rw [hW1]; exact HG.out.alloc _
        have hw1 : Below wr.heap.size wr W1 := by rw [hW1]; exact (Below.refl _ _).alloc (Nat.le_refl _) _
        rw [← hW1]
        obtain ⟨⟨c0, c1, c2⟩, c3, c4, c5, c6⟩ := hB
        simp only [Nat.zero_add] at c0 c1 c2 c3 c4 c5 c6
        clear e0 e1 e2 e3 e4 e5 e6 hW1 hw1
        generalize wr.heap.size = gp at *
        refine (HV1.out _).mono ?_
        rintro e w' ⟨qa, osa, rfl, rfl⟩
        go_wp2
        go_ret
        exact ⟨ret_b (by rw [HR.out]), HG1.out.grown _ _⟩
      cases xo
      · cases b2
        · have HR : Hid (ordB l = false) := ord_bad hkl (by rw [HX.out, HPC.out]; rfl)
          go_wp2_with fail
          obtain ⟨W1, hW1⟩ : ∃ W1, W1 = wr.alloc (.cells #[.int .i64 xk, .int .i64 xn, .string xt, .int .i64 yk, .int .i64 yn, .string yt, .bool false] 57) := ⟨_, rfl⟩
          have hB : IAt W1 wr.heap.size 0 ⟨⟨xk, xn, xt⟩, ⟨yk, yn, yt⟩, false⟩ := by rw [hW1]; exact ⟨⟨by go_simp, by go_simp, by go_simp⟩, by go_simp, by go_simp, by go_simp, by go_simp⟩
          have hlB : wr.heap.size < W1.heap.size := by rw [hW1]; simp
          have HG1 : Hid (Gro w0 W1) := by show Gro _ _; rw [hW1]; exact HG.out.alloc _
          have hw1 : Below wr.heap.size wr W1 := by rw [hW1]; exact (Below.refl _ _).alloc (Nat.le_refl _) _
          rw [← hW1]
          obtain ⟨⟨c0, c1, c2⟩, c3, c4, c5, c6⟩ := hB
          simp only [Nat.zero_add] at c0 c1 c2 c3 c4 c5 c6
          clear e0 e1 e2 e3 e4 e5 e6 hW1 hw1
          generalize wr.heap.size = gp at *
          refine (HV1.out _).mono ?_
          rintro e w' ⟨qa, osa, rfl, rfl⟩
          go_wp2_with fail
          refine (HV2.out _).mono ?_
          rintro e w' ⟨qb, osb, rfl, rfl⟩
          go_wp2
          go_ret
          exact ⟨ret_b (by rw [HR.out]), HG1.out.grown _ _⟩
        by_cases hdl : d < 0
        · have HDL : Hid (decide (d < 0) = true) := by show _ = _; simpa using hdl
          have n2 : ¬ 0 ≤ d := by omega
          rcases HW.out with rfl | ⟨j, rfl⟩
          · have HR : Hid (OkR l (0 + 1)) := okR_next HOK.out hkl (by rw [HX.out, HPC.out, HDL.out]; rfl) (by rw [HX.out]; intro h; cases h) (fun h0 => absurd h0 (Nat.lt_irrefl _))
            simp only [Nat.zero_mul, Nat.add_zero] at e0 e1 e2 e3 e4 e5 e6
            go_wp2_with fail
            obtain ⟨W1, hW1⟩ : ∃ W1, W1 = wr.alloc (.cells #[.int .i64 xk, .int .i64 xn, .string xt, .int .i64 yk, .int .i64 yn, .string yt, .bool false] 57) := ⟨_, rfl⟩
            have hB : IAt W1 wr.heap.size 0 ⟨⟨xk, xn, xt⟩, ⟨yk, yn, yt⟩, false⟩ := by rw [hW1]; exact ⟨⟨by go_simp, by go_simp, by go_simp⟩, by go_simp, by go_simp, by go_simp, by go_simp⟩
            have hlB : wr.heap.size < W1.heap.size := by rw [hW1]; simp
            have HG1 : Hid (Gro w0 W1) := by show Gro _ _; rw [hW1]; exact HG.out.alloc _
            have hw1 : Below wr.heap.size wr W1 := by rw [hW1]; exact (Below.refl _ _).alloc (Nat.le_refl _) _
            rw [← hW1]
            obtain ⟨⟨c0, c1, c2⟩, c3, c4, c5, c6⟩ := hB
            simp only [Nat.zero_add] at c0 c1 c2 c3 c4 c5 c6
            clear e0 e1 e2 e3 e4 e5 e6 hW1 hw1
            generalize wr.heap.size = gp at *
            refine (HV1.out _).mono ?_
            rintro e w' ⟨qa, osa, rfl, rfl⟩
            go_wp2_with fail
            refine (HV2.out _).mono ?_
            rintro e w' ⟨qb, osb, rfl, rfl⟩
            go_wp2_with fail
            refine (HCM.out _).mono ?_
            rintro e w' ⟨qc, osc, rfl, rfl⟩
            go_wp2_with fail
            obtain ⟨W2, hW2⟩ : ∃ W2, W2 = Sort.grow (W1.drewN (qa + qb + qc)) (osa ++ (osb ++ osc)) := ⟨_, rfl⟩
            rw [← hW2]
            have hg2 : Gro W1 W2 := by rw [hW2]; exact (Gro.refl W1).grown _ _
            have HG2 : Hid (Gro w0 W2) := HG1.out.trans hg2
            have lB2 := Nat.lt_of_lt_of_le hlB hg2.size
            replace c0 := (hg2.below.cell (p := ⟨gp, 0, none⟩) hlB).trans c0
            replace c1 := (hg2.below.cell (p := ⟨gp, 1, none⟩) hlB).trans c1
            replace c2 := (hg2.below.cell (p := ⟨gp, 2, none⟩) hlB).trans c2
            clear hW2 hg2 hlB c3 c4 c5 c6
            refine wp_region_quiet_grown mx (by kernel_rfl) ?_
            repeat (go_big_quiet_step (fail))
            refine wpQuiet_nil ?_
            intro x1 hw'
            obtain ⟨⟨nq, osq⟩, hw''⟩ := hw'
            subst hw''
            go_wp2
            exact ⟨⟨0 + 1, by omega, by go_num, HR.out, HG2.out.grown _ _⟩, by simp [intOf]; omega⟩
          · have hjl : j < l.length := by omega
            have haj := (HRI.out.later HG.out.below).at_ j hjl
            obtain ⟨y, hy⟩ : ∃ y, l[j] = y := ⟨_, rfl⟩
            rw [hy] at haj
            have HAJ := Lib.hid haj
            have HY := Lib.hid hy
            obtain ⟨⟨zk, zn, zt⟩, ⟨uk, un, ut⟩, zo⟩ := y
            have HCP := Lib.hid (fun w' => refCompare_calls ⟨uk, un, ut⟩ ⟨xk, xn, xt⟩ w')
            obtain ⟨c, hc⟩ : ∃ c, cmpV ⟨uk, un, ut⟩ ⟨xk, xn, xt⟩ = c := ⟨_, rfl⟩
            rw [hc] at HCP
            have HC := Lib.hid hc
            have i0 : (0 : Int) < (j : Int) + 1 := by omega
            have i1 : (0 : Int) ≤ (j : Int) := by omega
            have i2 : (j : Int) < (N : Int) := by omega
            have i5 : IntKind.i64.wrap ((j : Int) + 1 - 1) = (j : Int) := by rw [show (j : Int) + 1 - 1 = (j : Int) by omega]; exact IntWalk.i64_in _ (by omega)
            clear haj hy hc
            by_cases hcl : c < 0
            · have HR : Hid (OkR l (j + 1 + 1)) := okR_next HOK.out hkl (by rw [HX.out, HPC.out, HDL.out]; rfl) (by rw [HX.out]; intro h; cases h) (fun h0 => by simp only [Nat.add_sub_cancel]; rw [HY.out, HX.out, HC.out]; exact hcl)
              have n1 : ¬ 0 ≤ c := by omega
              go_wp2_with fail
              obtain ⟨W1, hW1⟩ : ∃ W1, W1 = wr.alloc (.cells #[.int .i64 xk, .int .i64 xn, .string xt, .int .i64 yk, .int .i64 yn, .string yt, .bool false] 57) := ⟨_, rfl⟩
              have hB : IAt W1 wr.heap.size 0 ⟨⟨xk, xn, xt⟩, ⟨yk, yn, yt⟩, false⟩ := by rw [hW1]; exact ⟨⟨by go_simp, by go_simp, by go_simp⟩, by go_simp, by go_simp, by go_simp, by go_simp⟩
              have hlB : wr.heap.size < W1.heap.size := by rw [hW1]; simp
              have HG1 : Hid (Gro w0 W1) := by show Gro _ _; rw [hW1]; exact HG.out.alloc _
              have hw1 : Below wr.heap.size wr W1 := by rw [hW1]; exact (Below.refl _ _).alloc (Nat.le_refl _) _
              rw [← hW1]
              obtain ⟨⟨c0, c1, c2⟩, c3, c4, c5, c6⟩ := hB
              simp only [Nat.zero_add] at c0 c1 c2 c3 c4 c5 c6
              obtain ⟨⟨f0, f1, f2⟩, f3, f4, f5, f6⟩ := HAJ.out.later hbl hw1
              have hbl1 := Nat.lt_of_lt_of_le hbl hw1.size
              simp only at f3 f4 f5
              clear f0 f1 f2 f6 hbl HAJ
              clear e0 e1 e2 e3 e4 e5 e6 hW1 hw1
              generalize wr.heap.size = gp at *
              refine (HV1.out _).mono ?_
              rintro e w' ⟨qa, osa, rfl, rfl⟩
              go_wp2_with fail
              refine (HV2.out _).mono ?_
              rintro e w' ⟨qb, osb, rfl, rfl⟩
              go_wp2_with fail
              refine (HCM.out _).mono ?_
              rintro e w' ⟨qc, osc, rfl, rfl⟩
              go_wp2_with fail
              obtain ⟨W2, hW2⟩ : ∃ W2, W2 = Sort.grow (W1.drewN (qa + qb + qc)) (osa ++ (osb ++ osc)) := ⟨_, rfl⟩
              rw [← hW2]
              have hg2 : Gro W1 W2 := by rw [hW2]; exact (Gro.refl W1).grown _ _
              have HG2 : Hid (Gro w0 W2) := HG1.out.trans hg2
              have lB2 := Nat.lt_of_lt_of_le hlB hg2.size
              replace c0 := (hg2.below.cell (p := ⟨gp, 0, none⟩) hlB).trans c0
              replace c1 := (hg2.below.cell (p := ⟨gp, 1, none⟩) hlB).trans c1
              replace c2 := (hg2.below.cell (p := ⟨gp, 2, none⟩) hlB).trans c2
              replace f3 := (hg2.below.cell (p := ⟨b, _, none⟩) hbl1).trans f3
              replace f4 := (hg2.below.cell (p := ⟨b, _, none⟩) hbl1).trans f4
              replace f5 := (hg2.below.cell (p := ⟨b, _, none⟩) hbl1).trans f5
              have hbl2 := Nat.lt_of_lt_of_le hbl1 hg2.size
              clear hbl1
              clear hW2 hg2 hlB c3 c4 c5 c6
              refine wp_region_quiet_grown mx (by kernel_rfl) ?_
              repeat (go_big_quiet_step ((first | (go_at_call 29; refine gro_calls (HCP.out _)))))
              refine wpQuiet_nil ?_
              intro x1 hw'
              obtain ⟨⟨nq, osq⟩, hw''⟩ := hw'
              subst hw''
              go_wp2
              exact ⟨⟨j + 1 + 1, by omega, by go_num, HR.out, HG2.out.grown _ _⟩, by simp [intOf]; omega⟩
            · have HR : Hid (ordB l = false) := ord_cmp hkl (by rw [HY.out, HX.out, HC.out]; exact hcl)
              have n1 : 0 ≤ c := by omega
              go_wp2_with fail
              obtain ⟨W1, hW1⟩ : ∃ W1, W1 = wr.alloc (.cells #[.int .i64 xk, .int .i64 xn, .string xt, .int .i64 yk, .int .i64 yn, .string yt, .bool false] 57) := ⟨_, rfl⟩
              have hB : IAt W1 wr.heap.size 0 ⟨⟨xk, xn, xt⟩, ⟨yk, yn, yt⟩, false⟩ := by rw [hW1]; exact ⟨⟨by go_simp, by go_simp, by go_simp⟩, by go_simp, by go_simp, by go_simp, by go_simp⟩
              have hlB : wr.heap.size < W1.heap.size := by rw [hW1]; simp
              have HG1 : Hid (Gro w0 W1) := by show Gro _ _; rw [hW1]; exact HG.out.alloc _
              have hw1 : Below wr.heap.size wr W1 := by rw [hW1]; exact (Below.refl _ _).alloc (Nat.le_refl _) _
              rw [← hW1]
              obtain ⟨⟨c0, c1, c2⟩, c3, c4, c5, c6⟩ := hB
              simp only [Nat.zero_add] at c0 c1 c2 c3 c4 c5 c6
              obtain ⟨⟨f0, f1, f2⟩, f3, f4, f5, f6⟩ := HAJ.out.later hbl hw1
              have hbl1 := Nat.lt_of_lt_of_le hbl hw1.size
              simp only at f3 f4 f5
              clear f0 f1 f2 f6 hbl HAJ
              clear e0 e1 e2 e3 e4 e5 e6 hW1 hw1
              generalize wr.heap.size = gp at *
              refine (HV1.out _).mono ?_
              rintro e w' ⟨qa, osa, rfl, rfl⟩
              go_wp2_with fail
              refine (HV2.out _).mono ?_
              rintro e w' ⟨qb, osb, rfl, rfl⟩
              go_wp2_with fail
              refine (HCM.out _).mono ?_
              rintro e w' ⟨qc, osc, rfl, rfl⟩
              go_wp2_with fail
              obtain ⟨W2, hW2⟩ : ∃ W2, W2 = Sort.grow (W1.drewN (qa + qb + qc)) (osa ++ (osb ++ osc)) := ⟨_, rfl⟩
              rw [← hW2]
              have hg2 : Gro W1 W2 := by rw [hW2]; exact (Gro.refl W1).grown _ _
              have HG2 : Hid (Gro w0 W2) := HG1.out.trans hg2
              have lB2 := Nat.lt_of_lt_of_le hlB hg2.size
              replace c0 := (hg2.below.cell (p := ⟨gp, 0, none⟩) hlB).trans c0
              replace c1 := (hg2.below.cell (p := ⟨gp, 1, none⟩) hlB).trans c1
              replace c2 := (hg2.below.cell (p := ⟨gp, 2, none⟩) hlB).trans c2
              replace f3 := (hg2.below.cell (p := ⟨b, _, none⟩) hbl1).trans f3
              replace f4 := (hg2.below.cell (p := ⟨b, _, none⟩) hbl1).trans f4
              replace f5 := (hg2.below.cell (p := ⟨b, _, none⟩) hbl1).trans f5
              have hbl2 := Nat.lt_of_lt_of_le hbl1 hg2.size
              clear hbl1
              clear hW2 hg2 hlB c3 c4 c5 c6
              refine wp_region_quiet_grown mx (by kernel_rfl) ?_
              repeat (go_big_quiet_step ((first | (go_at_call 29; refine gro_calls (HCP.out _)))))
              refine wpQuiet_nil ?_
              intro x1 hw'
              obtain ⟨⟨nq, osq⟩, hw''⟩ := hw'
              subst hw''
              go_wp2
              go_ret
              exact ⟨ret_b (by rw [HR.out]), HG2.out.grown _ _⟩
        · have HDL : Hid (decide (d < 0) = false) := by show _ = _; simpa using hdl
          have n2 : 0 ≤ d := by omega
          have HR : Hid (ordB l = false) := ord_bad hkl (by rw [HX.out, HPC.out, HDL.out]; rfl)
          go_wp2_with fail
          obtain ⟨W1, hW1⟩ : ∃ W1, W1 = wr.alloc (.cells #[.int .i64 xk, .int .i64 xn, .string xt, .int .i64 yk, .int .i64 yn, .string yt, .bool false] 57) := ⟨_, rfl⟩
          have hB : IAt W1 wr.heap.size 0 ⟨⟨xk, xn, xt⟩, ⟨yk, yn, yt⟩, false⟩ := by rw [hW1]; exact ⟨⟨by go_simp, by go_simp, by go_simp⟩, by go_simp, by go_simp, by go_simp, by go_simp⟩
          have hlB : wr.heap.size < W1.heap.size := by rw [hW1]; simp
          have HG1 : Hid (Gro w0 W1) := by show Gro _ _; rw [hW1]; exact HG.out.alloc _
          have hw1 : Below wr.heap.size wr W1 := by rw [hW1]; exact (Below.refl _ _).alloc (Nat.le_refl _) _
          rw [← hW1]
          obtain ⟨⟨c0, c1, c2⟩, c3, c4, c5, c6⟩ := hB
          simp only [Nat.zero_add] at c0 c1 c2 c3 c4 c5 c6
          clear e0 e1 e2 e3 e4 e5 e6 hW1 hw1
          generalize wr.heap.size = gp at *
          refine (HV1.out _).mono ?_
          rintro e w' ⟨qa, osa, rfl, rfl⟩
          go_wp2_with fail
          refine (HV2.out _).mono ?_
          rintro e w' ⟨qb, osb, rfl, rfl⟩
          go_wp2_with fail
          refine (HCM.out _).mono ?_
          rintro e w' ⟨qc, osc, rfl, rfl⟩
          go_wp2
          go_ret
          exact ⟨ret_b (by rw [HR.out]), HG1.out.grown _ _⟩
      · by_cases hlast : k + 1 = N
        · have n3 : decide ((k : Int) < (N : Int) - 1) = false := by simp; omega
          have n4 : ¬ ((k : Int) < (N : Int) - 1) := by omega
          have n5 : wrap64 ((N : Int) - 1) = (N : Int) - 1 := by unfold wrap64; omega
          have N5 := Lib.hid n5
          have hez := HE.out
          cases bz
          · have HR : Hid (ordB l = false) := ord_bad hkl (by rw [HX.out, HPO.out]; rfl)
            go_wp2_with fail
            obtain ⟨W1, hW1⟩ : ∃ W1, W1 = wr.alloc (.cells #[.int .i64 xk, .int .i64 xn, .string xt, .int .i64 yk, .int .i64 yn, .string yt, .bool true] 57) := ⟨_, rfl⟩
            have hB : IAt W1 wr.heap.size 0 ⟨⟨xk, xn, xt⟩, ⟨yk, yn, yt⟩, true⟩ := by rw [hW1]; exact ⟨⟨by go_simp, by go_simp, by go_simp⟩, by go_simp, by go_simp, by go_simp, by go_simp⟩
            have hlB : wr.heap.size < W1.heap.size := by rw [hW1]; simp
            have HG1 : Hid (Gro w0 W1) := by show Gro _ _; rw [hW1]; exact HG.out.alloc _
            have hw1 : Below wr.heap.size wr W1 := by rw [hW1]; exact (Below.refl _ _).alloc (Nat.le_refl _) _
            rw [← hW1]
            obtain ⟨⟨c0, c1, c2⟩, c3, c4, c5, c6⟩ := hB
            simp only [Nat.zero_add] at c0 c1 c2 c3 c4 c5 c6
            clear e0 e1 e2 e3 e4 e5 e6 hW1 hw1
            generalize wr.heap.size = gp at *
            refine (HV1.out _).mono ?_
            rintro e w' ⟨qa, osa, rfl, rfl⟩
            go_wp2
            go_ret
            exact ⟨ret_b (by rw [HR.out]), HG1.out.grown _ _⟩
          · have HLA : Hid (k + 1 = l.length) := by show _ = _; rw [HN.out]; exact hlast
            clear hlast n5
            rcases HW.out with rfl | ⟨j, rfl⟩
            · have HR : Hid (OkR l (0 + 1)) := okR_next HOK.out hkl (by rw [HX.out, HPO.out]; rfl) (by rw [HX.out]; intro _; exact HLA.out) (fun h0 => absurd h0 (Nat.lt_irrefl _))
              simp only [Nat.zero_mul, Nat.add_zero] at e0 e1 e2 e3 e4 e5 e6
              go_wp2_with fail
              obtain ⟨W1, hW1⟩ : ∃ W1, W1 = wr.alloc (.cells #[.int .i64 xk, .int .i64 xn, .string xt, .int .i64 yk, .int .i64 yn, .string yt, .bool true] 57) := ⟨_, rfl⟩
              have hB : IAt W1 wr.heap.size 0 ⟨⟨xk, xn, xt⟩, ⟨yk, yn, yt⟩, true⟩ := by rw [hW1]; exact ⟨⟨by go_simp, by go_simp, by go_simp⟩, by go_simp, by go_simp, by go_simp, by go_simp⟩
              have hlB : wr.heap.size < W1.heap.size := by rw [hW1]; simp
              have HG1 : Hid (Gro w0 W1) := by show Gro _ _; rw [hW1]; exact HG.out.alloc _
              have hw1 : Below wr.heap.size wr W1 := by rw [hW1]; exact (Below.refl _ _).alloc (Nat.le_refl _) _
              rw [← hW1]
              obtain ⟨⟨c0, c1, c2⟩, c3, c4, c5, c6⟩ := hB
              simp only [Nat.zero_add] at c0 c1 c2 c3 c4 c5 c6
              clear e0 e1 e2 e3 e4 e5 e6 hW1 hw1
              generalize wr.heap.size = gp at *
              refine (HV1.out _).mono ?_
              rintro e w' ⟨qa, osa, rfl, rfl⟩
              go_wp2_with fail
              obtain ⟨W2, hW2⟩ : ∃ W2, W2 = Sort.grow (W1.drewN qa) osa := ⟨_, rfl⟩
              rw [← hW2]
              have hg2 : Gro W1 W2 := by rw [hW2]; exact (Gro.refl W1).grown _ _
              have HG2 : Hid (Gro w0 W2) := HG1.out.trans hg2
              have lB2 := Nat.lt_of_lt_of_le hlB hg2.size
              replace c0 := (hg2.below.cell (p := ⟨gp, 0, none⟩) hlB).trans c0
              replace c1 := (hg2.below.cell (p := ⟨gp, 1, none⟩) hlB).trans c1
              replace c2 := (hg2.below.cell (p := ⟨gp, 2, none⟩) hlB).trans c2
              clear hW2 hg2 hlB c3 c4 c5 c6
              refine wp_region_quiet_grown mx (by kernel_rfl) ?_
              repeat (go_big_quiet_step (fail))
              refine wpQuiet_nil ?_
              intro x1 hw'
              obtain ⟨⟨nq, osq⟩, hw''⟩ := hw'
              subst hw''
              go_wp2
              exact ⟨⟨0 + 1, by omega, by go_num, HR.out, HG2.out.grown _ _⟩, by simp [intOf]; omega⟩
            · have hjl : j < l.length := by omega
              have haj := (HRI.out.later HG.out.below).at_ j hjl
              obtain ⟨y, hy⟩ : ∃ y, l[j] = y := ⟨_, rfl⟩
              rw [hy] at haj
              have HAJ := Lib.hid haj
              have HY := Lib.hid hy
              obtain ⟨⟨zk, zn, zt⟩, ⟨uk, un, ut⟩, zo⟩ := y
              have HCP := Lib.hid (fun w' => refCompare_calls ⟨uk, un, ut⟩ ⟨xk, xn, xt⟩ w')
              obtain ⟨c, hc⟩ : ∃ c, cmpV ⟨uk, un, ut⟩ ⟨xk, xn, xt⟩ = c := ⟨_, rfl⟩
              rw [hc] at HCP
              have HC := Lib.hid hc
              have i0 : (0 : Int) < (j : Int) + 1 := by omega
              have i1 : (0 : Int) ≤ (j : Int) := by omega
              have i2 : (j : Int) < (N : Int) := by omega
              have i5 : IntKind.i64.wrap ((j : Int) + 1 - 1) = (j : Int) := by rw [show (j : Int) + 1 - 1 = (j : Int) by omega]; exact IntWalk.i64_in _ (by omega)
              clear haj hy hc
              by_cases hcl : c < 0
              · have HR : Hid (OkR l (j + 1 + 1)) := okR_next HOK.out hkl (by rw [HX.out, HPO.out]; rfl) (by rw [HX.out]; intro _; exact HLA.out) (fun h0 => by simp only [Nat.add_sub_cancel]; rw [HY.out, HX.out, HC.out]; exact hcl)
                have n1 : ¬ 0 ≤ c := by omega
                go_wp2_with fail
                obtain ⟨W1, hW1⟩ : ∃ W1, W1 = wr.alloc (.cells #[.int .i64 xk, .int .i64 xn, .string xt, .int .i64 yk, .int .i64 yn, .string yt, .bool true] 57) := ⟨_, rfl⟩
                have hB : IAt W1 wr.heap.size 0 ⟨⟨xk, xn, xt⟩, ⟨yk, yn, yt⟩, true⟩ := by rw [hW1]; exact ⟨⟨by go_simp, by go_simp, by go_simp⟩, by go_simp, by go_simp, by go_simp, by go_simp⟩
                have hlB : wr.heap.size < W1.heap.size := by rw [hW1]; simp
                have HG1 : Hid (Gro w0 W1) := by show Gro _ _; rw [hW1]; exact HG.out.alloc _
                have hw1 : Below wr.heap.size wr W1 := by rw [hW1]; exact (Below.refl _ _).alloc (Nat.le_refl _) _
                rw [← hW1]
                obtain ⟨⟨c0, c1, c2⟩, c3, c4, c5, c6⟩ := hB
                simp only [Nat.zero_add] at c0 c1 c2 c3 c4 c5 c6
                obtain ⟨⟨f0, f1, f2⟩, f3, f4, f5, f6⟩ := HAJ.out.later hbl hw1
                have hbl1 := Nat.lt_of_lt_of_le hbl hw1.size
                simp only at f3 f4 f5
                clear f0 f1 f2 f6 hbl HAJ
                clear e0 e1 e2 e3 e4 e5 e6 hW1 hw1
                generalize wr.heap.size = gp at *
                refine (HV1.out _).mono ?_
                rintro e w' ⟨qa, osa, rfl, rfl⟩
                go_wp2_with fail
                obtain ⟨W2, hW2⟩ : ∃ W2, W2 = Sort.grow (W1.drewN qa) osa := ⟨_, rfl⟩
                rw [← hW2]
                have hg2 : Gro W1 W2 := by rw [hW2]; exact (Gro.refl W1).grown _ _
                have HG2 : Hid (Gro w0 W2) := HG1.out.trans hg2
                have lB2 := Nat.lt_of_lt_of_le hlB hg2.size
                replace c0 := (hg2.below.cell (p := ⟨gp, 0, none⟩) hlB).trans c0
                replace c1 := (hg2.below.cell (p := ⟨gp, 1, none⟩) hlB).trans c1
                replace c2 := (hg2.below.cell (p := ⟨gp, 2, none⟩) hlB).trans c2
                replace f3 := (hg2.below.cell (p := ⟨b, _, none⟩) hbl1).trans f3
                replace f4 := (hg2.below.cell (p := ⟨b, _, none⟩) hbl1).trans f4
                replace f5 := (hg2.below.cell (p := ⟨b, _, none⟩) hbl1).trans f5
                have hbl2 := Nat.lt_of_lt_of_le hbl1 hg2.size
                clear hbl1
                clear hW2 hg2 hlB c3 c4 c5 c6
                refine wp_region_quiet_grown mx (by kernel_rfl) ?_
                repeat (go_big_quiet_step ((first | (go_at_call 29; refine gro_calls (HCP.out _)))))
                refine wpQuiet_nil ?_
                intro x1 hw'
                obtain ⟨⟨nq, osq⟩, hw''⟩ := hw'
                subst hw''
                go_wp2
                exact ⟨⟨j + 1 + 1, by omega, by go_num, HR.out, HG2.out.grown _ _⟩, by simp [intOf]; omega⟩
              · have HR : Hid (ordB l = false) := ord_cmp hkl (by rw [HY.out, HX.out, HC.out]; exact hcl)
                have n1 : 0 ≤ c := by omega
                go_wp2_with fail
                obtain ⟨W1, hW1⟩ : ∃ W1, W1 = wr.alloc (.cells #[.int .i64 xk, .int .i64 xn, .string xt, .int .i64 yk, .int .i64 yn, .string yt, .bool true] 57) := ⟨_, rfl⟩
                have hB : IAt W1 wr.heap.size 0 ⟨⟨xk, xn, xt⟩, ⟨yk, yn, yt⟩, true⟩ := by rw [hW1]; exact ⟨⟨by go_simp, by go_simp, by go_simp⟩, by go_simp, by go_simp, by go_simp, by go_simp⟩
                have hlB : wr.heap.size < W1.heap.size := by rw [hW1]; simp
                have HG1 : Hid (Gro w0 W1) := by show Gro _ _; rw [hW1]; exact HG.out.alloc _
                have hw1 : Below wr.heap.size wr W1 := by rw [hW1]; exact (Below.refl _ _).alloc (Nat.le_refl _) _
                rw [← hW1]
                obtain ⟨⟨c0, c1, c2⟩, c3, c4, c5, c6⟩ := hB
                simp only [Nat.zero_add] at c0 c1 c2 c3 c4 c5 c6
                obtain ⟨⟨f0, f1, f2⟩, f3, f4, f5, f6⟩ := HAJ.out.later hbl hw1
                have hbl1 := Nat.lt_of_lt_of_le hbl hw1.size
                simp only at f3 f4 f5
                clear f0 f1 f2 f6 hbl HAJ
                clear e0 e1 e2 e3 e4 e5 e6 hW1 hw1
                generalize wr.heap.size = gp at *
                refine (HV1.out _).mono ?_
                rintro e w' ⟨qa, osa, rfl, rfl⟩
                go_wp2_with fail
                obtain ⟨W2, hW2⟩ : ∃ W2, W2 = Sort.grow (W1.drewN qa) osa := ⟨_, rfl⟩
                rw [← hW2]
                have hg2 : Gro W1 W2 := by rw [hW2]; exact (Gro.refl W1).grown _ _
                have HG2 : Hid (Gro w0 W2) := HG1.out.trans hg2
                have lB2 := Nat.lt_of_lt_of_le hlB hg2.size
                replace c0 := (hg2.below.cell (p := ⟨gp, 0, none⟩) hlB).trans c0
                replace c1 := (hg2.below.cell (p := ⟨gp, 1, none⟩) hlB).trans c1
                replace c2 := (hg2.below.cell (p := ⟨gp, 2, none⟩) hlB).trans c2
                replace f3 := (hg2.below.cell (p := ⟨b, _, none⟩) hbl1).trans f3
                replace f4 := (hg2.below.cell (p := ⟨b, _, none⟩) hbl1).trans f4
                replace f5 := (hg2.below.cell (p := ⟨b, _, none⟩) hbl1).trans f5
                have hbl2 := Nat.lt_of_lt_of_le hbl1 hg2.size
                clear hbl1
                clear hW2 hg2 hlB c3 c4 c5 c6
                refine wp_region_quiet_grown mx (by kernel_rfl) ?_
                repeat (go_big_quiet_step ((first | (go_at_call 29; refine gro_calls (HCP.out _)))))
                refine wpQuiet_nil ?_
                intro x1 hw'
                obtain ⟨⟨nq, osq⟩, hw''⟩ := hw'
                subst hw''
                go_wp2
                go_ret
                exact ⟨ret_b (by rw [HR.out]), HG2.out.grown _ _⟩
        · have HR : Hid (ordB l = false) := ord_open (k := k) (by have := HN.out; clear hwk; omega) (by rw [HX.out])
          have n3 : decide ((k : Int) < (N : Int) - 1) = true := by simp; omega
          have n4 : (k : Int) < (N : Int) - 1 := by omega
          go_wp2_with fail
          obtain ⟨W1, hW1⟩ : ∃ W1, W1 = wr.alloc (.cells #[.int .i64 xk, .int .i64 xn, .string xt, .int .i64 yk, .int .i64 yn, .string yt, .bool true] 57) := ⟨_, rfl⟩
          have hB : IAt W1 wr.heap.size 0 ⟨⟨xk, xn, xt⟩, ⟨yk, yn, yt⟩, true⟩ := by rw [hW1]; exact ⟨⟨by go_simp, by go_simp, by go_simp⟩, by go_simp, by go_simp, by go_simp, by go_simp⟩
          have hlB : wr.heap.size < W1.heap.size := by rw [hW1]; simp
          have HG1 : Hid (Gro w0 W1) := by show Gro _ _; rw [hW1]; exact HG.out.alloc _
          have hw1 : Below wr.heap.size wr W1 := by rw [hW1]; exact (Below.refl _ _).alloc (Nat.le_refl _) _
          rw [← hW1]
          obtain ⟨⟨c0, c1, c2⟩, c3, c4, c5, c6⟩ := hB
          simp only [Nat.zero_add] at c0 c1 c2 c3 c4 c5 c6
          clear e0 e1 e2 e3 e4 e5 e6 hW1 hw1
          generalize wr.heap.size = gp at *
          refine (HV1.out _).mono ?_
          rintro e w' ⟨qa, osa, rfl, rfl⟩
          go_wp2
          go_ret
          exact ⟨ret_b (by rw [HR.out]), HG1.out.grown _ _⟩
    · have hlt' : decide ((k : Int) < (N : Int)) = false := by simp; omega
      have HR : Hid (ordB l = true) := okTo_all (by rw [show l.length = k by have := HN.out; omega]; exact hok.1)
      clear hg hok
      go_wp2
      go_ret
      exact ⟨ret_b (by rw [HR.out]), HG.out⟩
theorem refIvalid_calls (v : Value) (l : List I) (w : World) (h : IvAt w v l) : Calls Try.prog 10 #[v] w fun e w' => e = .returned (.bool (canonB l)) ∧ Gro w w' := by
  have HO := Lib.hid (ordered_calls v l w h)
  have e : canonB l = (decide (l.length ≤ 64) && ordB l) := rfl
  have HE := Lib.hid e
  obtain ⟨pa, ca, rfl, la, ha⟩ := h
  generalize l.length = N at HO HE la
  clear ha e
  by_cases hs : N ≤ 64
  · have hd : decide ((N : Int) ≤ 64) = true := by simp; omega
    have HD : Hid (decide (N ≤ 64) = true) := by show _ = _; simpa using hs
    go_enter Try.func10, Try.ntmps10
    go_wp2_with fail
    refine HO.out.mono ?_
    rintro e w' ⟨rfl, hg⟩
    have HG := Lib.hid hg
    clear hg
    go_wp2
    go_ret
    exact ⟨ret_b (by rw [HE.out, HD.out]; rfl), HG.out⟩
  · have hd : decide ((N : Int) ≤ 64) = false := by simp; omega
    have HD : Hid (decide (N ≤ 64) = false) := by show _ = _; simpa using hs
    go_enter Try.func10, Try.ntmps10
    go_wp2
    go_ret
    exact ⟨ret_b (by rw [HE.out, HD.out]; rfl), Gro.refl _⟩
end Go.Proofs.Ytmjokpakekfkfaa
