/- The contracts of interval.Valid and of the reference's Ordered and Valid. -/
import Derived.Test.YtmjokpakekfkfaaVc
set_option linter.unusedSimpArgs false
set_option linter.unusedVariables false
namespace Go.Proofs.Ytmjokpakekfkfaa
open Go.RowKit

/-- Canonical as far as has been looked. -/
def OkTo (l : List I) (k : Nat) : Prop := ∀ i (h : i < l.length), i < k → partB l[i] = true ∧ ∀ h0 : 0 < i, sepB (l[i - 1]'(by omega)) l[i] = true
theorem okTo_zero (l : List I) : OkTo l 0 := fun i h hi => absurd hi (Nat.not_lt_zero _)
theorem okTo_all {l : List I} (h : OkTo l l.length) : ordB l = true := ordB_iff.2 fun i hi => h i hi hi
theorem okTo_next {l : List I} {k : Nat} (h : OkTo l k) (hk : k < l.length) (h1 : partB l[k] = true) (h2 : ∀ h0 : 0 < k, sepB (l[k - 1]'(by omega)) l[k] = true) : OkTo l (k + 1) := by
  intro i hi hik
  by_cases e : i = k
  · subst e; exact ⟨h1, h2⟩
  · exact h i hi (by omega)
theorem ord_bad {l : List I} {k : Nat} (hk : k < l.length) (h : partB l[k] = false) : ordB l = false := ordB_no fun ho => by have := (ho k hk).1; rw [h] at this; cases this
theorem ord_gap {l : List I} {k : Nat} (hk : k + 1 < l.length) (h : sepB (l[k]'(by omega)) l[k + 1] = false) : ordB l = false :=
  ordB_no fun ho => by have := (ho (k + 1) hk).2 (by omega); simp only [Nat.add_sub_cancel] at this; rw [h] at this; cases this
theorem Gro.box {a w : World} (h : Gro a w) (x : I) (T : TypeId) (n : Nat) (os : Array Obj) : Gro a (Sort.grow ((w.alloc (iObj x T)).drewN n) os) := (h.alloc _).grown _ _

set_option maxHeartbeats 2000000 in
set_option maxRecDepth 100000 in
theorem valid_short (v : Value) (l : List I) (w : World) (h : IvAt w v l) (hs : l.length ≤ 64) : Calls Try.prog 9 #[v] w fun e w' => e = .returned (.bool (ordB l)) ∧ Gro w w' := by
  have mx := mixed
  obtain ⟨pa, ca, rfl, la, ha⟩ := h
  obtain ⟨w0, rfl⟩ : ∃ w0, w0 = w := ⟨_, rfl⟩
  have HA := Lib.hid ha
  generalize hN : l.length = N at hs la
  have HN := Lib.hid hN
  have hd : decide ((64 : Int) < (N : Int)) = false := by simp; omega
  have hd2 : decide (64 < N) = false := by simp; omega
  clear ha hN la
  go_enter Try.func9, Try.ntmps9
  go_wp2_with fail
  clear hd hd2
  go_loopw [3, 4, 10] (fun _ _ i wr => ∃ k : Nat, k ≤ N ∧ i = .int .i64 k ∧ OkTo l k ∧ Gro w0 wr) (fun _ _ i _ => N - (intOf i).toNat)
  case atStart => exact ⟨0, by omega, rfl, okTo_zero l, Gro.refl _⟩
  case round =>
    obtain ⟨k, hk, rfl, hok, hg⟩ := hrel
    have HG := Lib.hid hg
    have HOK := Lib.hid hok
    by_cases hlt : k < N
    · have hkl : k < l.length := by rw [HN.out]; exact hlt
      have hlt' : decide ((k : Int) < (N : Int)) = true := by simp; omega
      have hwk := step_int k (by omega)
      obtain ⟨b, off, rfl, hri⟩ := HA.out.resolve_left (by rintro rfl; simp at hkl)
      have hat := (hri.later hg.below).at_ k hkl
      have hbl := (hri.later hg.below).blk
      obtain ⟨x, hx⟩ : ∃ x, l[k] = x := ⟨_, rfl⟩
      rw [hx] at hat
      obtain ⟨⟨e0, e1, e2⟩, e3, e4, e5, e6⟩ := hat
      have HX := Lib.hid hx
      obtain ⟨p, hp⟩ : ∃ p, partB x = p := ⟨_, rfl⟩
      have hcp := fun w' => validPart_calls x w'
      rw [hp] at hcp
      have HP := Lib.hid hp
      have HCP := Lib.hid hcp
      cases p
      · have HR : Hid (ordB l = false) := ord_bad hkl (by rw [HX.out, HP.out])
        clear hg hok hx hp hcp hri
        obtain ⟨⟨xk, xn, xt⟩, ⟨yk, yn, yt⟩, xo⟩ := x
        simp only at e0 e1 e2 e3 e4 e5 e6
        go_wp2_with fail
        obtain ⟨W1, hW1⟩ : ∃ W1, W1 = wr.alloc (.cells #[.int .i64 xk, .int .i64 xn, .string xt, .int .i64 yk, .int .i64 yn, .string yt, .bool xo] 57) := ⟨_, rfl⟩
        have hB : IAt W1 wr.heap.size 0 ⟨⟨xk, xn, xt⟩, ⟨yk, yn, yt⟩, xo⟩ := by rw [hW1]; exact ⟨⟨by go_simp, by go_simp, by go_simp⟩, by go_simp, by go_simp, by go_simp, by go_simp⟩
        have hlB : wr.heap.size < W1.heap.size := by rw [hW1]; simp
        have HG1 : Hid (Gro w0 W1) := by show Gro _ _; rw [hW1]; exact HG.out.alloc _
        have hw1 : Below wr.heap.size wr W1 := by rw [hW1]; exact (Below.refl _ _).alloc (Nat.le_refl _) _
        rw [← hW1]
        obtain ⟨⟨c0, c1, c2⟩, c3, c4, c5, c6⟩ := hB
        simp only [Nat.zero_add] at c0 c1 c2 c3 c4 c5 c6
        clear e0 e1 e2 e3 e4 e5 e6 hW1 hw1
        generalize wr.heap.size = gp at *
        refine wp_region_quiet_grown mx (by kernel_rfl) ?_
        repeat (go_big_quiet_step ((first | (go_at_call 36; refine gro_calls (HCP.out _)))))
        refine wpQuiet_nil ?_
        intro x1 hw'
        obtain ⟨⟨nq, osq⟩, hw''⟩ := hw'
        subst hw''
        go_wp2
        go_ret
        exact ⟨ret_b (by rw [HR.out]), HG1.out.grown _ _⟩
      · by_cases hk0 : k = 0
        · subst hk0
          have HR : Hid (OkTo l (0 + 1)) := okTo_next HOK.out hkl (by rw [HX.out, HP.out]) (fun h0 => absurd h0 (Nat.lt_irrefl _))
          clear hg hok hx hp hcp hri
          obtain ⟨⟨xk, xn, xt⟩, ⟨yk, yn, yt⟩, xo⟩ := x
          simp only [Nat.zero_mul, Nat.add_zero] at e0 e1 e2 e3 e4 e5 e6
          go_wp2_with fail
          obtain ⟨W1, hW1⟩ : ∃ W1, W1 = wr.alloc (.cells #[.int .i64 xk, .int .i64 xn, .string xt, .int .i64 yk, .int .i64 yn, .string yt, .bool xo] 57) := ⟨_, rfl⟩
          have hB : IAt W1 wr.heap.size 0 ⟨⟨xk, xn, xt⟩, ⟨yk, yn, yt⟩, xo⟩ := by rw [hW1]; exact ⟨⟨by go_simp, by go_simp, by go_simp⟩, by go_simp, by go_simp, by go_simp, by go_simp⟩
          have hlB : wr.heap.size < W1.heap.size := by rw [hW1]; simp
          have HG1 : Hid (Gro w0 W1) := by show Gro _ _; rw [hW1]; exact HG.out.alloc _
          have hw1 : Below wr.heap.size wr W1 := by rw [hW1]; exact (Below.refl _ _).alloc (Nat.le_refl _) _
          rw [← hW1]
          obtain ⟨⟨c0, c1, c2⟩, c3, c4, c5, c6⟩ := hB
          simp only [Nat.zero_add] at c0 c1 c2 c3 c4 c5 c6
          clear e0 e1 e2 e3 e4 e5 e6 hW1 hw1
          generalize wr.heap.size = gp at *
          refine wp_region_quiet_grown mx (by kernel_rfl) ?_
          repeat (go_big_quiet_step ((first | (go_at_call 36; refine gro_calls (HCP.out _)))))
          refine wpQuiet_nil ?_
          intro x1 hw'
          obtain ⟨⟨nq, osq⟩, hw''⟩ := hw'
          subst hw''
          go_wp2
          exact ⟨⟨0 + 1, by omega, by go_num, HR.out, HG1.out.grown _ _⟩, by simp [intOf]; omega⟩
        · obtain ⟨j, rfl⟩ : ∃ j, k = j + 1 := ⟨k - 1, by omega⟩
          have hjl : j < l.length := by omega
          have haj := (hri.later hg.below).at_ j hjl
          obtain ⟨y, hy⟩ : ∃ y, l[j] = y := ⟨_, rfl⟩
          rw [hy] at haj
          have HAJ := Lib.hid haj
          have HY := Lib.hid hy
          obtain ⟨s, hs⟩ : ∃ s, sepB y x = s := ⟨_, rfl⟩
          have hcs := fun w' => separate_calls y x w'
          rw [hs] at hcs
          have HS := Lib.hid hs
          have HCS := Lib.hid hcs
          have i0 : (0 : Int) < (j : Int) + 1 := by omega
          have i1 : (0 : Int) ≤ (j : Int) := by omega
          have i2 : (j : Int) < (N : Int) := by omega
          have i5 : IntKind.i64.wrap ((j : Int) + 1 - 1) = (j : Int) := by rw [show (j : Int) + 1 - 1 = (j : Int) by omega]; exact IntWalk.i64_in _ (by omega)
          cases s
          · have HR : Hid (ordB l = false) := ord_gap hkl (by rw [HY.out, HX.out, HS.out])
            clear hg hok haj hx hp hcp hy hs hcs hk0 hri
            obtain ⟨⟨xk, xn, xt⟩, ⟨yk, yn, yt⟩, xo⟩ := x
            obtain ⟨⟨zk, zn, zt⟩, ⟨uk, un, ut⟩, zo⟩ := y
            simp only at e0 e1 e2 e3 e4 e5 e6
            go_wp2_with fail
            obtain ⟨W1, hW1⟩ : ∃ W1, W1 = wr.alloc (.cells #[.int .i64 xk, .int .i64 xn, .string xt, .int .i64 yk, .int .i64 yn, .string yt, .bool xo] 57) := ⟨_, rfl⟩
            have hB : IAt W1 wr.heap.size 0 ⟨⟨xk, xn, xt⟩, ⟨yk, yn, yt⟩, xo⟩ := by rw [hW1]; exact ⟨⟨by go_simp, by go_simp, by go_simp⟩, by go_simp, by go_simp, by go_simp, by go_simp⟩
            have hlB : wr.heap.size < W1.heap.size := by rw [hW1]; simp
            have HG1 : Hid (Gro w0 W1) := by show Gro _ _; rw [hW1]; exact HG.out.alloc _
            have hw1 : Below wr.heap.size wr W1 := by rw [hW1]; exact (Below.refl _ _).alloc (Nat.le_refl _) _
            rw [← hW1]
            obtain ⟨⟨c0, c1, c2⟩, c3, c4, c5, c6⟩ := hB
            simp only [Nat.zero_add] at c0 c1 c2 c3 c4 c5 c6
            obtain ⟨⟨f0, f1, f2⟩, f3, f4, f5, f6⟩ := HAJ.out.later hbl hw1
            have hbl1 := Nat.lt_of_lt_of_le hbl hw1.size
            simp only at f0 f1 f2 f3 f4 f5 f6
            clear e0 e1 e2 e3 e4 e5 e6 hW1 hw1 hbl HAJ
            generalize wr.heap.size = gp at *
            refine wp_region_quiet_grown mx (by kernel_rfl) ?_
            repeat (go_big_quiet_step ((first | (go_at_call 36; refine gro_calls (HCP.out _)) | (go_at_call 37; refine gro_calls (HCS.out _)))))
            refine wpQuiet_nil ?_
            intro x1 hw'
            obtain ⟨⟨nq, osq⟩, hw''⟩ := hw'
            subst hw''
            go_wp2
            go_ret
            exact ⟨ret_b (by rw [HR.out]), HG1.out.grown _ _⟩
          · have HR : Hid (OkTo l (j + 1 + 1)) := okTo_next HOK.out hkl (by rw [HX.out, HP.out]) (fun h0 => by simp only [Nat.add_sub_cancel]; rw [HY.out, HX.out, HS.out])
            clear hg hok haj hx hp hcp hy hs hcs hk0 hri
            obtain ⟨⟨xk, xn, xt⟩, ⟨yk, yn, yt⟩, xo⟩ := x
            obtain ⟨⟨zk, zn, zt⟩, ⟨uk, un, ut⟩, zo⟩ := y
            simp only at e0 e1 e2 e3 e4 e5 e6
            go_wp2_with fail
            obtain ⟨W1, hW1⟩ : ∃ W1, W1 = wr.alloc (.cells #[.int .i64 xk, .int .i64 xn, .string xt, .int .i64 yk, .int .i64 yn, .string yt, .bool xo] 57) := ⟨_, rfl⟩
            have hB : IAt W1 wr.heap.size 0 ⟨⟨xk, xn, xt⟩, ⟨yk, yn, yt⟩, xo⟩ := by rw [hW1]; exact ⟨⟨by go_simp, by go_simp, by go_simp⟩, by go_simp, by go_simp, by go_simp, by go_simp⟩
            have hlB : wr.heap.size < W1.heap.size := by rw [hW1]; simp
            have HG1 : Hid (Gro w0 W1) := by show Gro _ _; rw [hW1]; exact HG.out.alloc _
            have hw1 : Below wr.heap.size wr W1 := by rw [hW1]; exact (Below.refl _ _).alloc (Nat.le_refl _) _
            rw [← hW1]
            obtain ⟨⟨c0, c1, c2⟩, c3, c4, c5, c6⟩ := hB
            simp only [Nat.zero_add] at c0 c1 c2 c3 c4 c5 c6
            obtain ⟨⟨f0, f1, f2⟩, f3, f4, f5, f6⟩ := HAJ.out.later hbl hw1
            have hbl1 := Nat.lt_of_lt_of_le hbl hw1.size
            simp only at f0 f1 f2 f3 f4 f5 f6
            clear e0 e1 e2 e3 e4 e5 e6 hW1 hw1 hbl HAJ
            generalize wr.heap.size = gp at *
            refine wp_region_quiet_grown mx (by kernel_rfl) ?_
            repeat (go_big_quiet_step ((first | (go_at_call 36; refine gro_calls (HCP.out _)) | (go_at_call 37; refine gro_calls (HCS.out _)))))
            refine wpQuiet_nil ?_
            intro x1 hw'
            obtain ⟨⟨nq, osq⟩, hw''⟩ := hw'
            subst hw''
            go_wp2
            exact ⟨⟨j + 1 + 1, by omega, by go_num, HR.out, HG1.out.grown _ _⟩, by simp [intOf]; omega⟩
    · have hlt' : decide ((k : Int) < (N : Int)) = false := by simp; omega
      have HR : Hid (ordB l = true) := okTo_all (by rw [show l.length = k by have := HN.out; omega]; exact hok)
      clear hg hok
      go_wp2
      go_ret
      exact ⟨ret_b (by rw [HR.out]), HG.out⟩

theorem ivalid_calls (v : Value) (l : List I) (w : World) (h : IvAt w v l) : Calls Try.prog 9 #[v] w fun e w' => e = .returned (.bool (canonB l)) ∧ Gro w w' := by
  by_cases hs : l.length ≤ 64
  · have := valid_short v l w h hs
    have e : canonB l = ordB l := by unfold canonB; simp [hs]
    rw [e]; exact this
  · have e : canonB l = false := by unfold canonB; simp [hs]
    rw [e]
    obtain ⟨pa, ca, rfl, la, ha⟩ := h
    generalize l.length = N at hs la
    have hd : decide ((64 : Int) < (N : Int)) = true := by simp; omega
    clear ha
    go_enter Try.func9, Try.ntmps9
    go_wp2
    go_ret
    exact ⟨rfl, Gro.refl _⟩
end Go.Proofs.Ytmjokpakekfkfaa
