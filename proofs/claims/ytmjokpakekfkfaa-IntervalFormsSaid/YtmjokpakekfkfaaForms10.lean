import Derived.Test.YtmjokpakekfkfaaForms9
/- The contracts of interval.Valid and of the reference's Ordered and Valid. -/
set_option linter.unusedSimpArgs false
set_option linter.unusedVariables false
namespace Go.Proofs.Ytmjokpakekfkfaa
open Go.RowKit

/-- Canonical as far as has been looked. -/
def OkTo (l : List I) (k : Nat) : Prop := ∀ i (h : i < l.length), i < k → partB l[i] = true ∧ ∀ h0 : 0 < i, sepB (l[i - 1]'(by omega)) l[i] = true
theorem okTo_zero (l : List I) : OkTo l 0 := fun i h hi => absurd hi (Nat.not_lt_zero _)
theorem okTo_all {l : List I} (h : OkTo l l.length) : ordB l = true := ordB_iff.2 fun i hi => h i hi hi
theorem okTo_next {l : List I} {k : Nat} (h : OkTo l k) (hk : k < l.length) (h1 : partB l[k] = true) (h2 : ∀ h0 : 0 < k, sepB (l[k - 1]'(by omega)) l[k] = true) : OkTo l (k + 1) := by
  intro i hi hik
  by_cases e : i = k
  · subst e; exact ⟨h1, h2⟩
  · exact h i hi (by omega)
theorem ord_bad {l : List I} {k : Nat} (hk : k < l.length) (h : partB l[k] = false) : ordB l = false := ordB_no fun ho => by have := (ho k hk).1; rw [h] at this; cases this
theorem ord_gap {l : List I} {k : Nat} (hk : k + 1 < l.length) (h : sepB (l[k]'(by omega)) l[k + 1] = false) : ordB l = false :=
  ordB_no fun ho => by have := (ho (k + 1) hk).2 (by omega); simp only [Nat.add_sub_cancel] at this; rw [h] at this; cases this
theorem Gro.box {a w : World} (h : Gro a w) (x : I) (T : TypeId) (n : Nat) (os : Array Obj) : Gro a (Sort.grow ((w.alloc (iObj x T)).drewN n) os) := (h.alloc _).grown _ _

set_option maxHeartbeats 2000000 in
set_option maxRecDepth 100000 in
theorem valid_short (v : Value) (l : List I) (w : World) (h : IvAt w v l) (hs : l.length ≤ 64) : Calls Try.prog 9 #[v] w fun e w' => e = .returned (.bool (ordB l)) ∧ Gro w w' := by
  have mx := mixed
  obtain ⟨pa, ca, rfl, la, ha⟩ := h
  obtain ⟨w0, rfl⟩ : ∃ w0, w0 = w := ⟨_, rfl⟩
  have HA := Lib.hid ha
  generalize hN : l.length = N at hs la
  have HN := Lib.hid hN
  have hd : decide ((64 : Int) < (N : Int)) = false := by simp; omega
  have hd2 : decide (64 < N) = false := by simp; omega
  clear ha hN la
  go_enter Try.func9, Try.ntmps9
  go_wp2_with fail
  clear hd hd2
  go_loopw [3, 4, 10] (fun _ _ i wr => ∃ k : Nat, k ≤ N ∧ i = .int .i64 k ∧ OkTo l k ∧ Gro w0 wr) (fun _ _ i _ => N - (intOf i).toNat)
  case atStart => exact ⟨0, by omega, rfl, okTo_zero l, Gro.refl _⟩
  case round =>
    obtain ⟨k, hk, rfl, hok, hg⟩ := hrel
    have HG := Lib.hid hg
    have HOK := Lib.hid hok
    by_cases hlt : k < N
    · have hkl : k < l.length := by rw [HN.out]; exact hlt
      have hlt' : decide ((k : Int) < (N : Int)) = true := by simp; omega
      have hwk := step_int k (by omega)
      obtain ⟨b, off, rfl, hri⟩ := HA.out.resolve_left (by rintro rfl; simp at hkl)
      have hat := (hri.later hg.below).at_ k hkl
      have hbl := (hri.later hg.below).blk
      obtain ⟨x, hx⟩ : ∃ x, l[k] = x := ⟨_, rfl⟩
      rw [hx] at hat
      obtain ⟨⟨e0, e1, e2⟩, e3, e4, e5, e6⟩ := hat
      have HX := Lib.hid hx
      obtain ⟨p, hp⟩ : ∃ p, partB x = p := ⟨_, rfl⟩
      have hcp := fun w' => validPart_calls x w'
      rw [hp] at hcp
      have HP := Lib.hid hp
      have HCP := Lib.hid hcp
      cases p
      · have HR : Hid (ordB l = false) := ord_bad hkl (by rw [HX.out, HP.out])
        clear hg hok hx hp hcp hri
        obtain ⟨⟨xk, xn, xt⟩, ⟨yk, yn, yt⟩, xo⟩ := x
        simp only at e0 e1 e2 e3 e4 e5 e6
        go_wp2_with fail
        obtain ⟨W1, hW1⟩ : ∃ W1, W1 = wr.alloc (.cells #[.int .i64 xk, .int .i64 xn, .string xt, .int .i64 yk, .int .i64 yn, .string yt, .bool xo] 57) := ⟨_, rfl⟩
        have hB : IAt W1 wr.heap.size 0 ⟨⟨xk, xn, xt⟩, ⟨yk, yn, yt⟩, xo⟩ := by rw [hW1]; exact ⟨⟨by go_simp, by go_simp, by go_simp⟩, by go_simp, by go_simp, by go_simp, by go_simp⟩
        have hlB : wr.heap.size < W1.heap.size := by rw [hW1]; simp
        have HG1 : Hid (Gro w0 W1) := by show Gro _ _; rw [hW1]; exact HG.out.alloc _
        have hw1 : Below wr.heap.size wr W1 := by rw [hW1]; exact (Below.refl _ _).alloc (Nat.le_refl _) _
        rw [← hW1]
        obtain ⟨⟨c0, c1, c2⟩, c3, c4, c5, c6⟩ := hB
        simp only [Nat.zero_add] at c0 c1 c2 c3 c4 c5 c6
        clear e0 e1 e2 e3 e4 e5 e6 hW1 hw1
        generalize wr.heap.size = gp at *
        refine wp_region_quiet_grown mx (by kernel_rfl) ?_
        repeat (go_big_quiet_step ((first | (go_at_call 36; refine gro_calls (HCP.out _)))))
        refine wpQuiet_nil ?_
        intro x1 hw'
        obtain ⟨⟨nq, osq⟩, hw''⟩ := hw'
        subst hw''
        go_wp2
        go_ret
        exact ⟨ret_b (by rw [HR.out]), HG1.out.grown _ _⟩
      · by_cases hk0 : k = 0
        · subst hk0
          have HR : Hid (OkTo l (0 + 1)) := okTo_next HOK.out hkl (by rw [HX.out, HP.out]) (fun h0 => absurd h0 (Nat.lt_irrefl _))
          clear hg hok hx hp hcp hri
          obtain ⟨⟨xk, xn, xt⟩, ⟨yk, yn, yt⟩, xo⟩ := x
          simp only [Nat.zero_mul, Nat.add_zero] at e0 e1 e2 e3 e4 e5 e6
          go_wp2_with fail
          obtain ⟨W1, hW1⟩ : ∃ W1, W1 = wr.alloc (.cells #[.int .i64 xk, .int .i64 xn, .string xt, .int .i64 yk, .int .i64 yn, .string yt, .bool xo] 57) := ⟨_, rfl⟩
          have hB : IAt W1 wr.heap.size 0 ⟨⟨xk, xn, xt⟩, ⟨yk, yn, yt⟩, xo⟩ := by rw [hW1]; exact ⟨⟨by go_simp, by go_simp, by go_simp⟩, by go_simp, by go_simp, by go_simp, by go_simp⟩
          have hlB : wr.heap.size < W1.heap.size := by rw [hW1]; simp
          have HG1 : Hid (Gro w0 W1) := by show Gro _ _; rw [hW1]; exact HG.out.alloc _
          have hw1 : Below wr.heap.size wr W1 := by rw [hW1]; exact (Below.refl _ _).alloc (Nat.le_refl _) _
          rw [← hW1]
          obtain ⟨⟨c0, c1, c2⟩, c3, c4, c5, c6⟩ := hB
          simp only [Nat.zero_add] at c0 c1 c2 c3 c4 c5 c6
          clear e0 e1 e2 e3 e4 e5 e6 hW1 hw1
          generalize wr.heap.size = gp at *
          refine wp_region_quiet_grown mx (by kernel_rfl) ?_
          repeat (go_big_quiet_step ((first | (go_at_call 36; refine gro_calls (HCP.out _)))))
          refine wpQuiet_nil ?_
          intro x1 hw'
          obtain ⟨⟨nq, osq⟩, hw''⟩ := hw'
          subst hw''
          go_wp2
          exact ⟨⟨0 + 1, by omega, by go_num, HR.out, HG1.out.grown _ _⟩, by simp [intOf]; omega⟩
        · obtain ⟨j, rfl⟩ : ∃ j, k = j + 1 := ⟨k - 1, by omega⟩
          have hjl : j < l.length := by omega
          have haj := (hri.later hg.below).at_ j hjl
          obtain ⟨y, hy⟩ : ∃ y, l[j] = y := ⟨_, rfl⟩
          rw [hy] at haj
          have HAJ := Lib.hid haj
          have HY := Lib.hid hy
          obtain ⟨s, hs⟩ : ∃ s, sepB y x = s := ⟨_, rfl⟩
          have hcs := fun w' => separate_calls y x w'
          rw [hs] at hcs
          have HS := Lib.hid hs
          have HCS := Lib.hid hcs
          have i0 : (0 : Int) < (j : Int) + 1 := by omega
          have i1 : (0 : Int) ≤ (j : Int) := by omega
          have i2 : (j : Int) < (N : Int) := by omega
          have i5 : IntKind.i64.wrap ((j : Int) + 1 - 1) = (j : Int) := by rw [show (j : Int) + 1 - 1 = (j : Int) by omega]; exact IntWalk.i64_in _ (by omega)
          cases s
          · have HR : Hid (ordB l = false) := ord_gap hkl (by rw [HY.out, HX.out, HS.out])
            clear hg hok haj hx hp hcp hy hs hcs hk0 hri
            obtain ⟨⟨xk, xn, xt⟩, ⟨yk, yn, yt⟩, xo⟩ := x
            obtain ⟨⟨zk, zn, zt⟩, ⟨uk, un, ut⟩, zo⟩ := y
            simp only at e0 e1 e2 e3 e4 e5 e6
            go_wp2_with fail
            obtain ⟨W1, hW1⟩ : ∃ W1, W1 = wr.alloc (.cells #[.int .i64 xk, .int .i64 xn, .string xt, .int .i64 yk, .int .i64 yn, .string yt, .bool xo] 57) := ⟨_, rfl⟩
            have hB : IAt W1 wr.heap.size 0 ⟨⟨xk, xn, xt⟩, ⟨yk, yn, yt⟩, xo⟩ := by rw [hW1]; exact ⟨⟨by go_simp, by go_simp, by go_simp⟩, by go_simp, by go_simp, by go_simp, by go_simp⟩
            have hlB : wr.heap.size < W1.heap.size := by rw [hW1]; simp
            have HG1 : Hid (Gro w0 W1) := by show Gro _ _; rw [hW1]; exact HG.out.alloc _
            have hw1 : Below wr.heap.size wr W1 := by rw [hW1]; exact (Below.refl _ _).alloc (Nat.le_refl _) _
            rw [← hW1]
            obtain ⟨⟨c0, c1, c2⟩, c3, c4, c5, c6⟩ := hB
            simp only [Nat.zero_add] at c0 c1 c2 c3 c4 c5 c6
            obtain ⟨⟨f0, f1, f2⟩, f3, f4, f5, f6⟩ := HAJ.out.later hbl hw1
            have hbl1 := Nat.lt_of_lt_of_le hbl hw1.size
            simp only at f0 f1 f2 f3 f4 f5 f6
            clear e0 e1 e2 e3 e4 e5 e6 hW1 hw1 hbl HAJ
            generalize wr.heap.size = gp at *
            refine wp_region_quiet_grown mx (by kernel_rfl) ?_
            repeat (go_big_quiet_step ((first | (go_at_call 36; refine gro_calls (HCP.out _)) | (go_at_call 37; refine gro_calls (HCS.out _)))))
            refine wpQuiet_nil ?_
            intro x1 hw'
            obtain ⟨⟨nq, osq⟩, hw''⟩ := hw'
            subst hw''
            go_wp2
            go_ret
            exact ⟨ret_b (by rw [HR.out]), HG1.out.grown _ _⟩
          · have HR : Hid (OkTo l (j + 1 + 1)) := okTo_next HOK.out hkl (by rw [HX.out, HP.out]) (fun h0 => by simp only [Nat.add_sub_cancel]; rw [HY.out, HX.out, HS.out])
            clear hg hok haj hx hp hcp hy hs hcs hk0 hri
            obtain ⟨⟨xk, xn, xt⟩, ⟨yk, yn, yt⟩, xo⟩ := x
            obtain ⟨⟨zk, zn, zt⟩, ⟨uk, un, ut⟩, zo⟩ := y
            simp only at e0 e1 e2 e3 e4 e5 e6
            go_wp2_with fail
            obtain ⟨W1, hW1⟩ : ∃ W1, W1 = wr.alloc (.cells #[.int .i64 xk, .int .i64 xn, .string xt, .int .i64 yk, .int .i64 yn, .string yt, .bool xo] 57) := ⟨_, rfl⟩
            have hB : IAt W1 wr.heap.size 0 ⟨⟨xk, xn, xt⟩, ⟨yk, yn, yt⟩, xo⟩ := by rw [hW1]; exact ⟨⟨by go_simp, by go_simp, by go_simp⟩, by go_simp, by go_simp, by go_simp, by go_simp⟩
            have hlB : wr.heap.size < W1.heap.size := by rw [hW1]; simp
            have HG1 : Hid (Gro w0 W1) := by show Gro _ _; rw [hW1]; exact HG.out.alloc _
            have hw1 : Below wr.heap.size wr W1 := by rw [hW1]; exact (Below.refl _ _).alloc (Nat.le_refl _) _
            rw [← hW1]
            obtain ⟨⟨c0, c1, c2⟩, c3, c4, c5, c6⟩ := hB
            simp only [Nat.zero_add] at c0 c1 c2 c3 c4 c5 c6
            obtain ⟨⟨f0, f1, f2⟩, f3, f4, f5, f6⟩ := HAJ.out.later hbl hw1
            have hbl1 := Nat.lt_of_lt_of_le hbl hw1.size
            simp only at f0 f1 f2 f3 f4 f5 f6
            clear e0 e1 e2 e3 e4 e5 e6 hW1 hw1 hbl HAJ
            generalize wr.heap.size = gp at *
            refine wp_region_quiet_grown mx (by kernel_rfl) ?_
            repeat (go_big_quiet_step ((first | (go_at_call 36; refine gro_calls (HCP.out _)) | (go_at_call 37; refine gro_calls (HCS.out _)))))
            refine wpQuiet_nil ?_
            intro x1 hw'
            obtain ⟨⟨nq, osq⟩, hw''⟩ := hw'
            subst hw''
            go_wp2
            exact ⟨⟨j + 1 + 1, by omega, by go_num, HR.out, HG1.out.grown _ _⟩, by simp [intOf]; omega⟩
    · have hlt' : decide ((k : Int) < (N : Int)) = false := by simp; omega
      have HR : Hid (ordB l = true) := okTo_all (by rw [show l.length = k by have := HN.out; omega]; exact hok)
      clear hg hok
      go_wp2
      go_ret
      exact ⟨ret_b (by rw [HR.out]), HG.out⟩

theorem ivalid_calls (v : Value) (l : List I) (w : World) (h : IvAt w v l) : Calls Try.prog 9 #[v] w fun e w' => e = .returned (.bool (canonB l)) ∧ Gro w w' := by
  by_cases hs : l.length ≤ 64
  · have := valid_short v l w h hs
    have e : canonB l = ordB l := by unfold canonB; simp [hs]
    rw [e]; exact this
  · have e : canonB l = false := by unfold canonB; simp [hs]
    rw [e]
    obtain ⟨pa, ca, rfl, la, ha⟩ := h
    generalize l.length = N at hs la
    have hd : decide ((64 : Int) < (N : Int)) = true := by simp; omega
    clear ha
    go_enter Try.func9, Try.ntmps9
    go_wp2
    go_ret
    exact ⟨rfl, Gro.refl _⟩
end Go.Proofs.Ytmjokpakekfkfaa

/- The contracts of One, OfKind, All and of their references; and of the reference's Same. -/
set_option linter.unusedSimpArgs false
set_option linter.unusedVariables false
namespace Go.Proofs.Ytmjokpakekfkfaa
open Go.RowKit

theorem box_gro' {w w1 : World} {x y z : Value} {T : TypeId} (h : Gro (w.alloc (.cells #[x, y, z] T)) w1) : w.heap.size < w1.heap.size ∧ w1.cell? ⟨w.heap.size, 0, none⟩ = some x ∧ w1.cell? ⟨w.heap.size, 1, none⟩ = some y ∧ w1.cell? ⟨w.heap.size, 2, none⟩ = some z := by
  have hg := gro_by h none
  have hs := h.size
  simp at hs
  exact ⟨by omega, hg.cell (by go_simp) (by simp), hg.cell (by go_simp) (by simp), hg.cell (by go_simp) (by simp)⟩
theorem MakeOut.from_ {l : List I} {err : Int} {w w0 : World} {e : Ending} {w' : World} (h : MakeOut l err w e w') (hw : Gro w0 w) : MakeOut l err w0 e w' := by
  obtain ⟨v, h1, h2, h3⟩ := h
  exact ⟨v, h1, h2, hw.trans h3⟩
theorem MakeOut.slice {l : List I} {err : Int} {w : World} {e : Ending} {w' : World} (h : MakeOut l err w e w') : ∃ (a : Option Addr) (cap : Nat), e = .returned (.tuple #[.slice a l.length cap, .int .i64 err]) ∧ IvAt w' (.slice a l.length cap) l ∧ Gro w w' := by
  obtain ⟨v, h1, h2, h3⟩ := h
  obtain ⟨a, cap, rfl, -, -⟩ := id h2
  exact ⟨a, cap, h1, h2, h3⟩
theorem make_done {l : List I} {err : Int} {w w' : World} {u v : Value} (hu : u = .tuple #[v, .int .i64 err]) (h : IvAt w' v l) (hg : Gro w w') : MakeOut l err w (.returned u) w' := by subst hu; exact ⟨v, rfl, h, hg⟩

noncomputable def oneL (v : V) : List I := match nextV v with | some u => betweenL v u | none => fromL v
noncomputable def oneE (v : V) : Int := match nextV v with | some u => betweenE v u | none => fromE v
theorem oneL_some {v u : V} (h : nextV v = some u) : oneL v = betweenL v u ∧ oneE v = betweenE v u := by unfold oneL oneE; rw [h]; exact ⟨rfl, rfl⟩
theorem oneL_none {v : V} (h : nextV v = none) : oneL v = fromL v ∧ oneE v = fromE v := by unfold oneL oneE; rw [h]; exact ⟨rfl, rfl⟩
theorem nextV_bad {v : V} (h : validB v = false) : nextV v = none := nextV_invalid h
theorem nextV_good {v u : V} (h1 : v.n ≤ 9223372036854775807) (h0 : -9223372036854775808 ≤ v.n) (hv : validB v = true) (h : nextV v = some u) : validB u = true ∧ cmpV v u < 0 := by
  obtain ⟨a, b, -⟩ := next_spec (q := v) h1 hv h0 h1 h
  exact ⟨a, by omega⟩
theorem one_ref {v : V} (h1 : v.n ≤ 9223372036854775807) (h0 : -9223372036854775808 ≤ v.n) (hv : validB v = true) : oneL v = [⟨v, (nextV v).getD zeroV, !(nextV v).isSome⟩] ∧ oneE v = 0 := by
  cases hn : nextV v with
  | none =>
    obtain ⟨a, b⟩ := oneL_none hn
    rw [a, b]
    exact ⟨by simp [fromL, hv]; rfl, by simp [fromE, hv]⟩
  | some u =>
    obtain ⟨a, b⟩ := oneL_some hn
    obtain ⟨c, d⟩ := nextV_good h1 h0 hv hn
    rw [a, b]
    exact ⟨by simp [betweenL, hv, c, d], by simp [betweenE, hv, c]⟩
theorem one_ref_bad {v : V} (hv : validB v = false) : oneL v = [] ∧ oneE v = 10 := by
  obtain ⟨a, b⟩ := oneL_none (nextV_bad hv)
  rw [a, b]
  exact ⟨by simp [fromL, hv], by simp [fromE, hv]⟩

theorem refOne_calls (x : V) (h0 : -9223372036854775808 ≤ x.n) (h9 : x.n ≤ 9223372036854775807) (w : World) : Calls Try.prog 31 #[x.val] w (MakeOut (oneL x) (oneE x) w) := by
  have HV := Lib.hid (refValid_calls x (w.alloc (vObj x 25)))
  have HN := Lib.hid (fun w' => refNext_calls x h0 w')
  rcases hv : validB x with _ | _
  · obtain ⟨h1, h2⟩ := one_ref_bad hv
    rw [h1, h2]
    rw [hv] at HV
    obtain ⟨xk, xn, xt⟩ := x
    clear hv h1 h2 h0 h9 HN
    go_enter Try.func31, Try.ntmps31
    go_wp2_with fail
    refine HV.out.mono ?_
    rintro e w2 ⟨rfl, hg⟩
    have HG : Hid (Gro w w2) := ((Gro.refl _).alloc _).trans hg
    clear hg HV
    go_wp2
    go_ret2
    exact make_nil rfl HG.out
  · obtain ⟨h1, h2⟩ := one_ref h9 h0 hv
    rw [h1, h2]
    rw [hv] at HV
    obtain ⟨u, hu⟩ : ∃ u, (nextV x).getD zeroV = u := ⟨_, rfl⟩
    obtain ⟨q, hq⟩ : ∃ q, (nextV x).isSome = q := ⟨_, rfl⟩
    have HB : Hid (both (nextV x) = .tuple #[u.val, .bool q]) := by show both _ = _; unfold both; rw [hu, hq]
    rw [hu, hq]
    obtain ⟨xk, xn, xt⟩ := x
    obtain ⟨uk, un, ut⟩ := u
    clear hv h1 h2 h0 h9 hu hq
    go_enter Try.func31, Try.ntmps31
    go_wp2_with fail
    refine HV.out.mono ?_
    rintro e w2 ⟨rfl, hg⟩
    obtain ⟨s0, c0, c1, c2⟩ := box_gro' hg
    have HG : Hid (Gro w w2) := ((Gro.refl _).alloc _).trans hg
    clear hg HV
    go_wp2_with fail
    refine (HN.out w2).mono ?_
    rintro e w3 ⟨rfl, hg3⟩
    rw [HB.out]
    have b0 := (hg3.below.cell (p := ⟨w.heap.size, 0, none⟩) s0).trans c0
    have b1 := (hg3.below.cell (p := ⟨w.heap.size, 1, none⟩) s0).trans c1
    have b2 := (hg3.below.cell (p := ⟨w.heap.size, 2, none⟩) s0).trans c2
    have s3 := Nat.lt_of_lt_of_le s0 hg3.size
    have HG3 := Lib.hid (HG.out.trans hg3)
    clear hg3 c0 c1 c2 s0 HB HN
    go_wp2
    go_ret2
    exact make_end (x := ⟨⟨xk, xn, xt⟩, ⟨uk, un, ut⟩, !q⟩) rfl (by simp) (HG3.out.alloc _)

noncomputable def kindL (k : Int) : List I := if firstB k = true then (if firstB (k + 1) = true then [⟨firstV k, firstV (k + 1), false⟩] else [⟨firstV k, zV, true⟩]) else []
def kindE (k : Int) : Int := if firstB k = true then 0 else 1
theorem first_ok {k : Int} (h : firstB k = true) : validB (firstV k) = true ∧ (firstB (k + 1) = true → validB (firstV (k + 1)) = true ∧ cmpV (firstV k) (firstV (k + 1)) < 0) ∧ 1 ≤ k ∧ k ≤ 5 := by
  have hk : k = 1 ∨ k = 2 ∨ k = 3 ∨ k = 4 ∨ k = 5 := by simpa [firstB] using h
  rcases hk with rfl | rfl | rfl | rfl | rfl
  · exact ⟨by decide +kernel, fun _ => ⟨by decide +kernel, by decide +kernel⟩, by omega, by omega⟩
  · exact ⟨by decide +kernel, fun _ => ⟨by decide +kernel, by decide +kernel⟩, by omega, by omega⟩
  · exact ⟨by decide +kernel, fun _ => ⟨by decide +kernel, by decide +kernel⟩, by omega, by omega⟩
  · exact ⟨by decide +kernel, fun _ => ⟨by decide +kernel, by decide +kernel⟩, by omega, by omega⟩
  · exact ⟨by decide +kernel, fun h => by simp [firstB] at h, by omega, by omega⟩
theorem first_no {k : Int} (h : firstB k = false) : firstV k = zV := by
  have hk : ¬ (k = 1 ∨ k = 2 ∨ k = 3 ∨ k = 4 ∨ k = 5) := by simpa [firstB] using h
  unfold firstV
  rw [if_neg (by omega), if_neg (by omega)]
  rfl
end Go.Proofs.Ytmjokpakekfkfaa

/- The contracts of OfKind, All and of their references; and of the reference's Same. -/
set_option linter.unusedSimpArgs false
set_option linter.unusedVariables false
namespace Go.Proofs.Ytmjokpakekfkfaa
open Go.RowKit

def allL : List I := [⟨⟨1, 0, ByteArray.empty⟩, zV, true⟩]
def AllOut (w : World) (e : Ending) (w' : World) : Prop := ∃ b, e = .returned (.slice (some ⟨b, 0, none⟩) 1 1) ∧ IvAt w' (.slice (some ⟨b, 0, none⟩) 1 1) allL ∧ Gro w w'
theorem all_end {w W : World} {u : Value} {T : TypeId} {g : Nat} (hu : u = .slice (some ⟨g, 0, none⟩) 1 1) (hg : g = W.heap.size) (h : Gro w W) : AllOut w (.returned u) (W.alloc (iObj ⟨⟨1, 0, ByteArray.empty⟩, zV, true⟩ T)) := by
  subst hu hg; exact ⟨_, rfl, iv_new _ _ _, h.alloc _⟩
theorem all_calls (w : World) : Calls Try.prog 48 #[] w (AllOut w) := by
  have HF := Lib.hid (first_calls 1 w)
  have e : (.tuple #[(firstV 1).val, .bool (firstB 1)] : Value) = .tuple #[V.val ⟨1, 0, ⟨#[]⟩⟩, .bool true] := rfl
  rw [e] at HF
  clear e
  go_enter Try.func48, Try.ntmps48
  go_wp2_with fail
  refine HF.out.mono ?_
  rintro e w2 ⟨rfl, hg⟩
  have HG := Lib.hid hg
  clear hg HF
  go_wp2
  go_ret
  exact all_end rfl (by simp) (HG.out.alloc _)
theorem refAll_calls (w : World) : Calls Try.prog 35 #[] w (AllOut w) := by
  go_enter Try.func35, Try.ntmps35
  go_wp2
  go_ret
  exact all_end rfl rfl (Gro.refl _)

theorem equalIn_V (d : Nat) (k n k' n' : Int) (t t' : ByteArray) (w : World) :
    (Op.equalIn (d + 2) 25 (.agg #[.int .i64 k, .int .i64 n, .string t]) (.agg #[.int .i64 k', .int .i64 n', .string t'])).run Try.prog w = .ok (decide ((⟨k, n, t⟩ : V) = ⟨k', n', t'⟩)) w := by
  have hS : Try.prog.underlying 25 = some (.struct (Try.prog.fieldsOf 25)) := by kernel_rfl
  have hp : Try.prog.stoodInHeld 25 = false := by kernel_rfl
  have u3 := Try.underlying3
  have a3 := Try.isAgg3
  have z3 := Try.sizeOf3
  have u2 := Try.underlying2
  have a2 := Try.isAgg2
  have z2 := Try.sizeOf2
  have u9 := Try.underlying9
  have a9 := Try.isAgg9
  have z9 := Try.sizeOf9
  rw [run_equalIn_agg w (d + 1) 25 _ _ hS hp]
  simp only [Program.fieldsOf, Try.underlying25]
  go_simp
  by_cases h1 : k = k' <;> by_cases h2 : n = n' <;> by_cases h3 : t = t' <;> simp [h1, h2, h3]
  exact fun h => h3 (toList_inj h)
/-- '!=' of two intervals. -/
theorem neq_I (x y : I) (w : World) : (binOp .neq 57 x.val y.val).run Try.prog w = .ok (.bool (!decide (x = y))) w := by
  obtain ⟨⟨a, b, c⟩, ⟨d, e, f⟩, g⟩ := x
  obtain ⟨⟨a', b', c'⟩, ⟨d', e', f'⟩, g'⟩ := y
  have hS : Try.prog.underlying 57 = some (.struct (Try.prog.fieldsOf 57)) := by kernel_rfl
  have hp : Try.prog.stoodInHeld 57 = false := by kernel_rfl
  have u4 := Try.underlying4
  have a4 := Try.isAgg4
  have z4 := Try.sizeOf4
  have z5 := Try.sizeOf25
  rw [run_neq_struct, show (10000 : Nat) = 9999 + 1 from rfl, run_equalIn_agg w 9999 57 _ _ hS hp]
  simp only [Program.fieldsOf, Try.underlying57]
  obtain ⟨m, hm⟩ : ∃ m, 9999 = m + 2 := ⟨9997, rfl⟩
  rw [hm]
  have hb : ∀ p q w, (Op.equalIn (m + 2) 4 (.bool p) (.bool q)).run Try.prog w = .ok (p == q) w := fun p q w => run_equalIn_bool' w (m + 1) _ _ _ Try.underlying4
  have hv := equalIn_V m
  clear hm
  go_simp
  by_cases h1 : a = a' <;> by_cases h2 : b = b' <;> by_cases h3 : c = c' <;> by_cases h4 : d = d' <;> by_cases h5 : e = e' <;> by_cases h6 : f = f' <;> by_cases h7 : g = g' <;> simp [h1, h2, h3, h4, h5, h6, h7]
theorem takeI_eq {a b : List I} {k : Nat} (h : a.take k = b.take k) (ha : k < a.length) (hb : k < b.length) (he : a[k] = b[k]) : a.take (k + 1) = b.take (k + 1) := by
  rw [List.take_add_one, List.take_add_one, h, List.getElem?_eq_getElem ha, List.getElem?_eq_getElem hb, he]
set_option maxHeartbeats 1000000 in
theorem sameI_calls (va vb : Value) (a b : List I) (w : World) (ha : IvAt w va a) (hb : IvAt w vb b) :
    Calls Try.prog 19 #[va, vb] w fun e w' => e = .returned (.bool (decide (a = b))) ∧ Gro w w' := by
  have mx := mixed
  obtain ⟨pa, ca, rfl, la, ha⟩ := ha
  obtain ⟨pb, cb, rfl, lb, hb⟩ := hb
  by_cases hl : a.length = b.length
  · obtain ⟨w0, rfl⟩ : ∃ w0, w0 = w := ⟨_, rfl⟩
    have HA := Lib.hid ha
    have HB := Lib.hid hb
    clear ha hb
    generalize hN : b.length = N at hl lb ⊢
    rw [hl]
    have HN := Lib.hid hN
    have HL := Lib.hid hl
    clear hN hl la
    go_enter Try.func19, Try.ntmps19
    go_wp2_with fail
    go_loopw [5, 13] (fun _ i wr => ∃ k : Nat, k ≤ N ∧ i = .int .i64 k ∧ a.take k = b.take k ∧ Gro w0 wr) (fun _ i _ => N - (intOf i).toNat)
    case atStart => exact ⟨0, by omega, rfl, by simp, Gro.refl _⟩
    case round =>
      obtain ⟨k, hk, rfl, ht, hg⟩ := hrel
      have HT := Lib.hid ht
      have HG := Lib.hid hg
      clear ht hg
      have hwk := step_int k (by omega)
      by_cases hlt : k < N
      · have hlt' : decide ((k : Int) < (N : Int)) = true := by simp; omega
        have hka : k < a.length := by rw [HL.out]; exact hlt
        have hkb : k < b.length := by rw [HN.out]; exact hlt
        obtain ⟨ba, oa, rfl, hra⟩ := HA.out.resolve_left (by rintro rfl; simp at hka)
        obtain ⟨bb, ob, rfl, hrb⟩ := HB.out.resolve_left (by rintro rfl; simp at hkb)
        have hata := (hra.later HG.out.below).at_ k hka
        have hatb := (hrb.later HG.out.below).at_ k hkb
        have la1 := (hra.later HG.out.below).blk
        have lb1 := (hrb.later HG.out.below).blk
        have HTE : Hid (a[k] = b[k] → a.take (k + 1) = b.take (k + 1)) := takeI_eq HT.out hka hkb
        have HNE : Hid (¬ a[k] = b[k] → ¬ a = b) := by show _ → _; intro h e; subst e; exact h rfl
        generalize a[k] = p at hata HTE HNE
        generalize b[k] = q at hatb HTE HNE
        obtain ⟨z, hz⟩ : ∃ z, decide (p = q) = z := ⟨_, rfl⟩
        have he : ∀ w, (binOp .neq 57 p.val q.val).run Try.prog w = .ok (.bool (!z)) w := fun w => by rw [neq_I, hz]
        have HZ := Lib.hid hz
        obtain ⟨⟨pk, pn, pT⟩, ⟨rk, rn, rT⟩, po⟩ := p
        obtain ⟨⟨qk, qn, qT⟩, ⟨sk, sn, sT⟩, qo⟩ := q
        obtain ⟨⟨a0, a1, a2⟩, a3, a4, a5, a6⟩ := hata
        obtain ⟨⟨b0, b1, b2⟩, b3, b4, b5, b6⟩ := hatb
        simp only at a0 a1 a2 a3 a4 a5 a6 b0 b1 b2 b3 b4 b5 b6
        clear hra hrb hz
        cases z
        · have HNQ := Lib.hid (HNE.out (of_decide_eq_false HZ.out))
          clear HTE HNE
          go_wp2_with fail
          go_quiet_grown (fail)
          go_wp2
          go_ret
          exact ⟨ret_b (by simp [HNQ.out]), HG.out.grown _ _⟩
        · have HTK := Lib.hid (HTE.out (of_decide_eq_true HZ.out))
          clear HTE HNE
          go_wp2_with fail
          go_quiet_grown (fail)
          go_wp2
          have hlen := HN.out
          exact ⟨⟨k + 1, by omega, by go_num, HTK.out, HG.out.grown _ _⟩, by simp [intOf]; omega⟩
      · have hlt' : decide ((k : Int) < (N : Int)) = false := by simp; omega
        have HE : Hid (a = b) := by
          show _ = _
          have h := HT.out
          rw [List.take_of_length_le (by have := HL.out; omega), List.take_of_length_le (by have := HN.out; omega)] at h
          exact h
        go_wp2
        go_ret
        exact ⟨ret_b (by simp [HE.out]), HG.out⟩
  · have hl' : ¬ ((a.length : Int) = (b.length : Int)) := by omega
    have hne : ¬ a = b := fun h => hl (by rw [h])
    have HNE := Lib.hid hne
    clear ha hb hne
    go_enter Try.func19, Try.ntmps19
    go_wp2
    go_ret
    exact ⟨ret_b (by simp [HNE.out]), Gro.refl _⟩
end Go.Proofs.Ytmjokpakekfkfaa

/- The contracts of interval.combine, Union, Intersect, Minus, Complement and Covers. -/
set_option linter.unusedSimpArgs false
set_option linter.unusedVariables false
namespace Go.Proofs.Ytmjokpakekfkfaa
open Go.RowKit

/-- The one canonical list of the values that are chosen. -/
noncomputable def combL (op : Bool → Bool → Bool) (a b : List I) : List I := @Classical.epsilon (List I) ⟨[]⟩ (fun L => OrdL L ∧ ∀ u, inB L u = op (inB a u) (inB b u))
theorem combL_is {op : Bool → Bool → Bool} {a b L : List I} (h1 : OrdL L) (h2 : ∀ u, inB L u = op (inB a u) (inB b u)) : L = combL op a b := by
  have := @Classical.epsilon_spec (List I) (fun L => OrdL L ∧ ∀ u, inB L u = op (inB a u) (inB b u)) ⟨L, h1, h2⟩
  exact OrdL.unique h1 this.1 fun v _ => by rw [h2 v]; exact (this.2 v).symm
theorem combL_ord {op : Bool → Bool → Bool} {a b : List I} (h : ∃ L, OrdL L ∧ ∀ u, inB L u = op (inB a u) (inB b u)) : OrdL (combL op a b) ∧ ∀ u, inB (combL op a b) u = op (inB a u) (inB b u) :=
  @Classical.epsilon_spec (List I) (fun L => OrdL L ∧ ∀ u, inB L u = op (inB a u) (inB b u)) h
theorem canon_ord {l : List I} (h : canonB l = true) : OrdL l ∧ l.length ≤ 64 := by
  unfold canonB at h
  simp at h
  exact ⟨ord_iff.1 (ordB_iff.1 h.2), h.1⟩
theorem canon_of {l : List I} (h : OrdL l) (hl : l.length ≤ 64) : canonB l = true := by unfold canonB; simp [hl, ordB_iff.2 (ord_iff.2 h)]
noncomputable def doL (op : Bool → Bool → Bool) (a b : List I) : List I := if canonB a = true ∧ canonB b = true ∧ (combL op a b).length ≤ 64 then combL op a b else []
noncomputable def doE (op : Bool → Bool → Bool) (a b : List I) : Int := if canonB a = true ∧ canonB b = true then (if (combL op a b).length ≤ 64 then 0 else 2) else 30
def MakeB (l : List I) (err : Int) (w : World) (e : Ending) (w' : World) : Prop := ∃ (a : Option Addr) (cap : Nat), e = .returned (.tuple #[.slice a l.length cap, .int .i64 err]) ∧ IvAt w' (.slice a l.length cap) l ∧ Below w.heap.size w w'
theorem makeB_nil {err : Int} {w w' : World} {u : Value} (hu : u = .tuple #[.slice none 0 0, .int .i64 err]) (h : Below w.heap.size w w') : MakeB [] err w (.returned u) w' := by subst hu; exact ⟨_, _, rfl, iv_nil _, h⟩
theorem makeB_done {l : List I} {err : Int} {w w' : World} {u : Value} {a : Option Addr} {n cap : Nat} (hu : u = .tuple #[.slice a n cap, .int .i64 err]) (hn : l.length = n) (h : IvAt w' (.slice a n cap) l) (hg : Below w.heap.size w w') : MakeB l err w (.returned u) w' := by subst hu hn; exact ⟨_, _, rfl, h, hg⟩
theorem MakeB.from_ {l : List I} {err : Int} {w w0 : World} {e : Ending} {w' : World} (h : MakeB l err w e w') (hw : Below w0.heap.size w0 w) : MakeB l err w0 e w' := by
  obtain ⟨a, cap, h1, h2, h3⟩ := h
  exact ⟨a, cap, h1, h2, hw.trans (h3.mono hw.size)⟩
theorem iv_slice {w : World} {v : Value} {l : List I} (h : IvAt w v l) : ∃ a cap, v = .slice a l.length cap := let ⟨a, cap, h1, _⟩ := h; ⟨a, cap, h1⟩
/-- A list that is both readable and owned. -/
structure IvO (base : Nat) (w : World) (v : Value) (l : List I) : Prop where
  at_ : IvAt w v l
  own : OwnI base w v l
theorem IvO.mono {b b' : Nat} {w : World} {v : Value} {l : List I} (h : IvO b w v l) (hb : b' ≤ b) : IvO b' w v l := ⟨h.at_, ownsRow_mono h.own hb⟩
theorem ivO_nil (b : Nat) (w : World) : IvO b w (.slice none 0 0) [] := ⟨iv_nil _, World.ownsRow_nil _ _ _ _⟩
/-- A list that the call has made, and an error. -/
def MakeO (l : List I) (err : Int) (w : World) (e : Ending) (w' : World) : Prop := ∃ (a : Option Addr) (cap : Nat), e = .returned (.tuple #[.slice a l.length cap, .int .i64 err]) ∧ IvO w.heap.size w' (.slice a l.length cap) l ∧ Below w.heap.size w w'
theorem MakeO.b {l : List I} {err : Int} {w : World} {e : Ending} {w' : World} (h : MakeO l err w e w') : MakeB l err w e w' := let ⟨a, cap, h1, h2, h3⟩ := h; ⟨a, cap, h1, h2.at_, h3⟩
theorem makeO_nil {err : Int} {w w' : World} {u : Value} (hu : u = .tuple #[.slice none 0 0, .int .i64 err]) (h : Below w.heap.size w w') : MakeO [] err w (.returned u) w' := by subst hu; exact ⟨_, _, rfl, ivO_nil _ _, h⟩
theorem makeO_done {l : List I} {err : Int} {w w' : World} {u : Value} {a : Option Addr} {n cap : Nat} (hu : u = .tuple #[.slice a n cap, .int .i64 err]) (hn : l.length = n) (h : IvO w.heap.size w' (.slice a n cap) l) (hg : Below w.heap.size w w') : MakeO l err w (.returned u) w' := by subst hu hn; exact ⟨_, _, rfl, h, hg⟩
def opOr (a b : Bool) : Bool := a || b
def opAnd (a b : Bool) : Bool := a && b
def opNot (a b : Bool) : Bool := a && !b
set_option maxHeartbeats 1000000 in
theorem combine_or_calls (va vb : Value) (a b : List I) (w : World) (ha : IvAt w va a) (hb : IvAt w vb b) : Calls Try.prog 50 #[va, vb, .func (.func 51) #[] #[]] w (MakeO (doL opOr a b) (doE opOr a b) w) := by
  have HA := Lib.hid ha
  have HB := Lib.hid hb
  have HV1 := Lib.hid (ivalid_calls va a w ha)
  cases ca : canonB a
  · have HL : Hid (doL opOr a b = [] ∧ doE opOr a b = 30) := by show _ ∧ _; simp [doL, doE, ca]
    rw [HL.out.1, HL.out.2]
    rw [ca] at HV1
    clear ha hb ca
    go_enter Try.func50, Try.ntmps50
    go_wp2_with fail
    refine HV1.out.mono ?_
    rintro e w2 ⟨rfl, hg⟩
    have HG := Lib.hid hg.below
    clear hg
    go_wp2
    go_ret2
    exact makeO_nil rfl HG.out
  cases cb : canonB b
  · have HL : Hid (doL opOr a b = [] ∧ doE opOr a b = 30) := by show _ ∧ _; simp [doL, doE, cb]
    rw [HL.out.1, HL.out.2]
    rw [ca] at HV1
    have CB := Lib.hid cb
    clear ha hb ca cb
    go_enter Try.func50, Try.ntmps50
    go_wp2_with fail
    refine HV1.out.mono ?_
    rintro e w2 ⟨rfl, hg⟩
    have HG := Lib.hid hg.below
    have hv2 := ivalid_calls vb b w2 (HB.out.later HG.out)
    rw [CB.out] at hv2
    have HV2 := Lib.hid hv2
    clear hg hv2
    go_wp2_with fail
    refine HV2.out.mono ?_
    rintro e w3 ⟨rfl, hg⟩
    have HG3 := Lib.hid (HG.out.trans (hg.below.mono HG.out.size))
    clear hg
    go_wp2
    go_ret2
    exact makeO_nil rfl HG3.out
  obtain ⟨o1, o2⟩ := canon_ord ca
  obtain ⟨p1, p2⟩ := canon_ord cb
  rw [ca] at HV1
  have CA := Lib.hid ca
  have CB := Lib.hid cb
  have O := Lib.hid (And.intro (And.intro o1 o2) (And.intro p1 p2))
  obtain ⟨L0, hL0⟩ : ∃ L0, doL opOr a b = L0 := ⟨_, rfl⟩
  obtain ⟨E0, hE0⟩ : ∃ E0, doE opOr a b = E0 := ⟨_, rfl⟩
  rw [hL0, hE0]
  have HL0 := Lib.hid hL0
  have HE0 := Lib.hid hE0
  clear ha hb ca cb o1 o2 p1 p2 hL0 hE0
  go_enter Try.func50, Try.ntmps50
  go_wp2_with fail
  refine HV1.out.mono ?_
  rintro e w2 ⟨rfl, hg⟩
  have HG := Lib.hid hg.below
  have hv2 := ivalid_calls vb b w2 (HB.out.later HG.out)
  rw [CB.out] at hv2
  have HV2 := Lib.hid hv2
  clear hg hv2
  go_wp2_with fail
  refine HV2.out.mono ?_
  rintro e w3 ⟨rfl, hg⟩
  have HG3 := Lib.hid (HG.out.trans (hg.below.mono HG.out.size))
  have HM := Lib.hid (merge_or opOr (by rfl) union_fn va vb a b w3 (HA.out.later HG3.out) (HB.out.later HG3.out) O.out.1.1 O.out.2.1 (by have := O.out.1.2; omega) (by have := O.out.2.2; omega))
  clear hg
  go_wp2_with fail
  refine HM.out.mono ?_
  rintro e w4 ⟨v4, L, rfl, hl1, hl2, hl3, hl4, hb4⟩
  have hLe : L = combL opOr a b := combL_is hl1 hl2
  have hll : L.length ≤ 1000 := by have := O.out.1.2; have := O.out.2.2; omega
  have hiv : IvO w.heap.size w4 v4 L := ⟨hl3.at_ (by omega), ownsRow_mono hl3 HG3.out.size⟩
  obtain ⟨a4, c4, rfl⟩ := iv_slice hiv.at_
  have HIV := Lib.hid hiv
  have HB4 := Lib.hid (HG3.out.trans (hb4.mono HG3.out.size))
  have HLE := Lib.hid hLe
  generalize hn : L.length = n at hll HIV ⊢
  have HN := Lib.hid hn
  clear hl1 hl2 hl3 hl4 hb4 hiv hLe hn HM HV2
  by_cases h64 : n ≤ 64
  · have d1 : decide ((64 : Int) < (n : Int)) = false := by simp; omega
    have e1 : L0 = L := by rw [← HL0.out]; unfold doL; rw [if_pos ⟨CA.out, CB.out, by rw [← HLE.out, HN.out]; exact h64⟩, HLE.out]
    have e2 : E0 = 0 := by rw [← HE0.out]; unfold doE; rw [if_pos ⟨CA.out, CB.out⟩, if_pos (by rw [← HLE.out, HN.out]; exact h64)]
    subst e1 e2
    go_wp2
    go_ret2
    exact makeO_done rfl HN.out HIV.out HB4.out
  · have d1 : decide ((64 : Int) < (n : Int)) = true := by simp; omega
    have e1 : L0 = [] := by rw [← HL0.out]; unfold doL; rw [if_neg (by rintro ⟨-, -, h⟩; rw [← HLE.out, HN.out] at h; exact h64 h)]
    have e2 : E0 = 2 := by rw [← HE0.out]; unfold doE; rw [if_pos ⟨CA.out, CB.out⟩, if_neg (by rw [← HLE.out, HN.out]; exact h64)]
    subst e1 e2
    go_wp2
    go_ret2
    exact makeO_nil rfl HB4.out
theorem Union_own (va vb : Value) (a b : List I) (w : World) (ha : IvAt w va a) (hb : IvAt w vb b) : Calls Try.prog 20 #[va, vb] w (MakeO (doL opOr a b) (doE opOr a b) w) := by
  have HC := Lib.hid (combine_or_calls va vb a b w ha hb)
  obtain ⟨L0, hL0⟩ : ∃ L0, doL opOr a b = L0 := ⟨_, rfl⟩
  rw [hL0] at HC ⊢
  generalize doE opOr a b = E0 at HC ⊢
  clear ha hb hL0
  go_enter Try.func20, Try.ntmps20
  go_wp2_with fail
  refine HC.out.mono ?_
  rintro e w4 ⟨a4, c4, rfl, hiv, hb4⟩
  have HIV := Lib.hid hiv
  have HB4 := Lib.hid hb4
  generalize hn : L0.length = n at HIV ⊢
  have HN := Lib.hid hn
  clear hiv hb4 hn HC
  go_wp2
  go_ret2
  exact makeO_done rfl HN.out HIV.out HB4.out
set_option maxHeartbeats 1000000 in
theorem combine_and_calls (va vb : Value) (a b : List I) (w : World) (ha : IvAt w va a) (hb : IvAt w vb b) : Calls Try.prog 50 #[va, vb, .func (.func 52) #[] #[]] w (MakeO (doL opAnd a b) (doE opAnd a b) w) := by
  have HA := Lib.hid ha
  have HB := Lib.hid hb
  have HV1 := Lib.hid (ivalid_calls va a w ha)
  cases ca : canonB a
  · have HL : Hid (doL opAnd a b = [] ∧ doE opAnd a b = 30) := by show _ ∧ _; simp [doL, doE, ca]
    rw [HL.out.1, HL.out.2]
    rw [ca] at HV1
    clear ha hb ca
    go_enter Try.func50, Try.ntmps50
    go_wp2_with fail
    refine HV1.out.mono ?_
    rintro e w2 ⟨rfl, hg⟩
    have HG := Lib.hid hg.below
    clear hg
    go_wp2
    go_ret2
    exact makeO_nil rfl HG.out
  cases cb : canonB b
  · have HL : Hid (doL opAnd a b = [] ∧ doE opAnd a b = 30) := by show _ ∧ _; simp [doL, doE, cb]
    rw [HL.out.1, HL.out.2]
    rw [ca] at HV1
    have CB := Lib.hid cb
    clear ha hb ca cb
    go_enter Try.func50, Try.ntmps50
    go_wp2_with fail
    refine HV1.out.mono ?_
    rintro e w2 ⟨rfl, hg⟩
    have HG := Lib.hid hg.below
    have hv2 := ivalid_calls vb b w2 (HB.out.later HG.out)
    rw [CB.out] at hv2
    have HV2 := Lib.hid hv2
    clear hg hv2
    go_wp2_with fail
    refine HV2.out.mono ?_
    rintro e w3 ⟨rfl, hg⟩
    have HG3 := Lib.hid (HG.out.trans (hg.below.mono HG.out.size))
    clear hg
    go_wp2
    go_ret2
    exact makeO_nil rfl HG3.out
  obtain ⟨o1, o2⟩ := canon_ord ca
  obtain ⟨p1, p2⟩ := canon_ord cb
  rw [ca] at HV1
  have CA := Lib.hid ca
  have CB := Lib.hid cb
  have O := Lib.hid (And.intro (And.intro o1 o2) (And.intro p1 p2))
  obtain ⟨L0, hL0⟩ : ∃ L0, doL opAnd a b = L0 := ⟨_, rfl⟩
  obtain ⟨E0, hE0⟩ : ∃ E0, doE opAnd a b = E0 := ⟨_, rfl⟩
  rw [hL0, hE0]
  have HL0 := Lib.hid hL0
  have HE0 := Lib.hid hE0
  clear ha hb ca cb o1 o2 p1 p2 hL0 hE0
  go_enter Try.func50, Try.ntmps50
  go_wp2_with fail
  refine HV1.out.mono ?_
  rintro e w2 ⟨rfl, hg⟩
  have HG := Lib.hid hg.below
  have hv2 := ivalid_calls vb b w2 (HB.out.later HG.out)
  rw [CB.out] at hv2
  have HV2 := Lib.hid hv2
  clear hg hv2
  go_wp2_with fail
  refine HV2.out.mono ?_
  rintro e w3 ⟨rfl, hg⟩
  have HG3 := Lib.hid (HG.out.trans (hg.below.mono HG.out.size))
  have HM := Lib.hid (merge_and opAnd (by rfl) intersect_fn va vb a b w3 (HA.out.later HG3.out) (HB.out.later HG3.out) O.out.1.1 O.out.2.1 (by have := O.out.1.2; omega) (by have := O.out.2.2; omega))
  clear hg
  go_wp2_with fail
  refine HM.out.mono ?_
  rintro e w4 ⟨v4, L, rfl, hl1, hl2, hl3, hl4, hb4⟩
  have hLe : L = combL opAnd a b := combL_is hl1 hl2
  have hll : L.length ≤ 1000 := by have := O.out.1.2; have := O.out.2.2; omega
  have hiv : IvO w.heap.size w4 v4 L := ⟨hl3.at_ (by omega), ownsRow_mono hl3 HG3.out.size⟩
  obtain ⟨a4, c4, rfl⟩ := iv_slice hiv.at_
  have HIV := Lib.hid hiv
  have HB4 := Lib.hid (HG3.out.trans (hb4.mono HG3.out.size))
  have HLE := Lib.hid hLe
  generalize hn : L.length = n at hll HIV ⊢
  have HN := Lib.hid hn
  clear hl1 hl2 hl3 hl4 hb4 hiv hLe hn HM HV2
  by_cases h64 : n ≤ 64
  · have d1 : decide ((64 : Int) < (n : Int)) = false := by simp; omega
    have e1 : L0 = L := by rw [← HL0.out]; unfold doL; rw [if_pos ⟨CA.out, CB.out, by rw [← HLE.out, HN.out]; exact h64⟩, HLE.out]
    have e2 : E0 = 0 := by rw [← HE0.out]; unfold doE; rw [if_pos ⟨CA.out, CB.out⟩, if_pos (by rw [← HLE.out, HN.out]; exact h64)]
    subst e1 e2
    go_wp2
    go_ret2
    exact makeO_done rfl HN.out HIV.out HB4.out
  · have d1 : decide ((64 : Int) < (n : Int)) = true := by simp; omega
    have e1 : L0 = [] := by rw [← HL0.out]; unfold doL; rw [if_neg (by rintro ⟨-, -, h⟩; rw [← HLE.out, HN.out] at h; exact h64 h)]
    have e2 : E0 = 2 := by rw [← HE0.out]; unfold doE; rw [if_pos ⟨CA.out, CB.out⟩, if_neg (by rw [← HLE.out, HN.out]; exact h64)]
    subst e1 e2
    go_wp2
    go_ret2
    exact makeO_nil rfl HB4.out
theorem Intersect_own (va vb : Value) (a b : List I) (w : World) (ha : IvAt w va a) (hb : IvAt w vb b) : Calls Try.prog 22 #[va, vb] w (MakeO (doL opAnd a b) (doE opAnd a b) w) := by
  have HC := Lib.hid (combine_and_calls va vb a b w ha hb)
  obtain ⟨L0, hL0⟩ : ∃ L0, doL opAnd a b = L0 := ⟨_, rfl⟩
  rw [hL0] at HC ⊢
  generalize doE opAnd a b = E0 at HC ⊢
  clear ha hb hL0
  go_enter Try.func22, Try.ntmps22
  go_wp2_with fail
  refine HC.out.mono ?_
  rintro e w4 ⟨a4, c4, rfl, hiv, hb4⟩
  have HIV := Lib.hid hiv
  have HB4 := Lib.hid hb4
  generalize hn : L0.length = n at HIV ⊢
  have HN := Lib.hid hn
  clear hiv hb4 hn HC
  go_wp2
  go_ret2
  exact makeO_done rfl HN.out HIV.out HB4.out
set_option maxHeartbeats 1000000 in
theorem combine_without_calls (va vb : Value) (a b : List I) (w : World) (ha : IvAt w va a) (hb : IvAt w vb b) : Calls Try.prog 50 #[va, vb, .func (.func 53) #[] #[]] w (MakeO (doL opNot a b) (doE opNot a b) w) := by
  have HA := Lib.hid ha
  have HB := Lib.hid hb
  have HV1 := Lib.hid (ivalid_calls va a w ha)
  cases ca : canonB a
  · have HL : Hid (doL opNot a b = [] ∧ doE opNot a b = 30) := by show _ ∧ _; simp [doL, doE, ca]
    rw [HL.out.1, HL.out.2]
    rw [ca] at HV1
    clear ha hb ca
    go_enter Try.func50, Try.ntmps50
    go_wp2_with fail
    refine HV1.out.mono ?_
    rintro e w2 ⟨rfl, hg⟩
    have HG := Lib.hid hg.below
    clear hg
    go_wp2
    go_ret2
    exact makeO_nil rfl HG.out
  cases cb : canonB b
  · have HL : Hid (doL opNot a b = [] ∧ doE opNot a b = 30) := by show _ ∧ _; simp [doL, doE, cb]
    rw [HL.out.1, HL.out.2]
    rw [ca] at HV1
    have CB := Lib.hid cb
    clear ha hb ca cb
    go_enter Try.func50, Try.ntmps50
    go_wp2_with fail
    refine HV1.out.mono ?_
    rintro e w2 ⟨rfl, hg⟩
    have HG := Lib.hid hg.below
    have hv2 := ivalid_calls vb b w2 (HB.out.later HG.out)
    rw [CB.out] at hv2
    have HV2 := Lib.hid hv2
    clear hg hv2
    go_wp2_with fail
    refine HV2.out.mono ?_
    rintro e w3 ⟨rfl, hg⟩
    have HG3 := Lib.hid (HG.out.trans (hg.below.mono HG.out.size))
    clear hg
    go_wp2
    go_ret2
    exact makeO_nil rfl HG3.out
  obtain ⟨o1, o2⟩ := canon_ord ca
  obtain ⟨p1, p2⟩ := canon_ord cb
  rw [ca] at HV1
  have CA := Lib.hid ca
  have CB := Lib.hid cb
  have O := Lib.hid (And.intro (And.intro o1 o2) (And.intro p1 p2))
  obtain ⟨L0, hL0⟩ : ∃ L0, doL opNot a b = L0 := ⟨_, rfl⟩
  obtain ⟨E0, hE0⟩ : ∃ E0, doE opNot a b = E0 := ⟨_, rfl⟩
  rw [hL0, hE0]
  have HL0 := Lib.hid hL0
  have HE0 := Lib.hid hE0
  clear ha hb ca cb o1 o2 p1 p2 hL0 hE0
  go_enter Try.func50, Try.ntmps50
  go_wp2_with fail
  refine HV1.out.mono ?_
  rintro e w2 ⟨rfl, hg⟩
  have HG := Lib.hid hg.below
  have hv2 := ivalid_calls vb b w2 (HB.out.later HG.out)
  rw [CB.out] at hv2
  have HV2 := Lib.hid hv2
  clear hg hv2
  go_wp2_with fail
  refine HV2.out.mono ?_
  rintro e w3 ⟨rfl, hg⟩
  have HG3 := Lib.hid (HG.out.trans (hg.below.mono HG.out.size))
  have HM := Lib.hid (merge_without opNot (by rfl) without_fn va vb a b w3 (HA.out.later HG3.out) (HB.out.later HG3.out) O.out.1.1 O.out.2.1 (by have := O.out.1.2; omega) (by have := O.out.2.2; omega))
  clear hg
  go_wp2_with fail
  refine HM.out.mono ?_
  rintro e w4 ⟨v4, L, rfl, hl1, hl2, hl3, hl4, hb4⟩
  have hLe : L = combL opNot a b := combL_is hl1 hl2
  have hll : L.length ≤ 1000 := by have := O.out.1.2; have := O.out.2.2; omega
  have hiv : IvO w.heap.size w4 v4 L := ⟨hl3.at_ (by omega), ownsRow_mono hl3 HG3.out.size⟩
  obtain ⟨a4, c4, rfl⟩ := iv_slice hiv.at_
  have HIV := Lib.hid hiv
  have HB4 := Lib.hid (HG3.out.trans (hb4.mono HG3.out.size))
  have HLE := Lib.hid hLe
  generalize hn : L.length = n at hll HIV ⊢
  have HN := Lib.hid hn
  clear hl1 hl2 hl3 hl4 hb4 hiv hLe hn HM HV2
  by_cases h64 : n ≤ 64
  · have d1 : decide ((64 : Int) < (n : Int)) = false := by simp; omega
    have e1 : L0 = L := by rw [← HL0.out]; unfold doL; rw [if_pos ⟨CA.out, CB.out, by rw [← HLE.out, HN.out]; exact h64⟩, HLE.out]
    have e2 : E0 = 0 := by rw [← HE0.out]; unfold doE; rw [if_pos ⟨CA.out, CB.out⟩, if_pos (by rw [← HLE.out, HN.out]; exact h64)]
    subst e1 e2
    go_wp2
    go_ret2
    exact makeO_done rfl HN.out HIV.out HB4.out
  · have d1 : decide ((64 : Int) < (n : Int)) = true := by simp; omega
    have e1 : L0 = [] := by rw [← HL0.out]; unfold doL; rw [if_neg (by rintro ⟨-, -, h⟩; rw [← HLE.out, HN.out] at h; exact h64 h)]
    have e2 : E0 = 2 := by rw [← HE0.out]; unfold doE; rw [if_pos ⟨CA.out, CB.out⟩, if_neg (by rw [← HLE.out, HN.out]; exact h64)]
    subst e1 e2
    go_wp2
    go_ret2
    exact makeO_nil rfl HB4.out
theorem Minus_own (va vb : Value) (a b : List I) (w : World) (ha : IvAt w va a) (hb : IvAt w vb b) : Calls Try.prog 24 #[va, vb] w (MakeO (doL opNot a b) (doE opNot a b) w) := by
  have HC := Lib.hid (combine_without_calls va vb a b w ha hb)
  obtain ⟨L0, hL0⟩ : ∃ L0, doL opNot a b = L0 := ⟨_, rfl⟩
  rw [hL0] at HC ⊢
  generalize doE opNot a b = E0 at HC ⊢
  clear ha hb hL0
  go_enter Try.func24, Try.ntmps24
  go_wp2_with fail
  refine HC.out.mono ?_
  rintro e w4 ⟨a4, c4, rfl, hiv, hb4⟩
  have HIV := Lib.hid hiv
  have HB4 := Lib.hid hb4
  generalize hn : L0.length = n at HIV ⊢
  have HN := Lib.hid hn
  clear hiv hb4 hn HC
  go_wp2
  go_ret2
  exact makeO_done rfl HN.out HIV.out HB4.out
theorem canon_all : canonB allL = true := canon_of (.one (by unfold partB; rw [if_pos rfl]; decide +kernel)) (by decide)
theorem Complement_own (va : Value) (a : List I) (w : World) (ha : IvAt w va a) : Calls Try.prog 17 #[va] w (MakeO (doL opNot allL a) (doE opNot allL a) w) := by
  have HA := Lib.hid ha
  have HAL := Lib.hid (all_calls w)
  obtain ⟨L0, hL0⟩ : ∃ L0, doL opNot allL a = L0 := ⟨_, rfl⟩
  have HM := Lib.hid (fun (vb : Value) (w' : World) (h1 : IvAt w' vb allL) (h2 : IvAt w' va a) => Minus_own vb va allL a w' h1 h2)
  rw [hL0] at HM ⊢
  generalize doE opNot allL a = E0 at HM ⊢
  clear ha hL0
  go_enter Try.func17, Try.ntmps17
  go_wp2_with fail
  refine HAL.out.mono ?_
  rintro e w2 ⟨b2, rfl, hiv, hg⟩
  have HG := Lib.hid hg.below
  have HM2 := Lib.hid (HM.out _ w2 hiv (HA.out.later hg.below))
  clear hiv hg HM HAL
  go_wp2_with fail
  refine HM2.out.mono ?_
  rintro e w4 ⟨a4, c4, rfl, hiv, hb4⟩
  have HIV := Lib.hid (hiv.mono HG.out.size)
  have HB4 := Lib.hid (HG.out.trans (hb4.mono HG.out.size))
  generalize hn : L0.length = n at HIV ⊢
  have HN := Lib.hid hn
  clear hiv hb4 hn HM2
  go_wp2
  go_ret2
  exact makeO_done rfl HN.out HIV.out HB4.out
theorem Union_calls (va vb : Value) (a b : List I) (w : World) (ha : IvAt w va a) (hb : IvAt w vb b) : Calls Try.prog 20 #[va, vb] w (MakeB (doL opOr a b) (doE opOr a b) w) := (Union_own va vb a b w ha hb).mono fun _ _ h => h.b
theorem Intersect_calls (va vb : Value) (a b : List I) (w : World) (ha : IvAt w va a) (hb : IvAt w vb b) : Calls Try.prog 22 #[va, vb] w (MakeB (doL opAnd a b) (doE opAnd a b) w) := (Intersect_own va vb a b w ha hb).mono fun _ _ h => h.b
theorem Minus_calls (va vb : Value) (a b : List I) (w : World) (ha : IvAt w va a) (hb : IvAt w vb b) : Calls Try.prog 24 #[va, vb] w (MakeB (doL opNot a b) (doE opNot a b) w) := (Minus_own va vb a b w ha hb).mono fun _ _ h => h.b
theorem Complement_calls (va : Value) (a : List I) (w : World) (ha : IvAt w va a) : Calls Try.prog 17 #[va] w (MakeB (doL opNot allL a) (doE opNot allL a) w) := (Complement_own va a w ha).mono fun _ _ h => h.b
noncomputable def covB (a b : List I) : Bool := canonB a && canonB b && decide ((combL opNot b a).length = 0)
noncomputable def covE (a b : List I) : Int := if canonB a = true ∧ canonB b = true then 0 else 30
def CovOut (q : Bool) (err : Int) (w : World) (e : Ending) (w' : World) : Prop := e = .returned (.tuple #[.bool q, .int .i64 err]) ∧ Below w.heap.size w w'
set_option maxHeartbeats 1000000 in
theorem Covers_calls (va vb : Value) (a b : List I) (w : World) (ha : IvAt w va a) (hb : IvAt w vb b) : Calls Try.prog 26 #[va, vb] w (CovOut (covB a b) (covE a b) w) := by
  have HA := Lib.hid ha
  have HB := Lib.hid hb
  have HV1 := Lib.hid (ivalid_calls va a w ha)
  cases ca : canonB a
  · have HL : Hid (covB a b = false ∧ covE a b = 30) := by show _ ∧ _; simp [covB, covE, ca]
    rw [HL.out.1, HL.out.2]
    rw [ca] at HV1
    clear ha hb ca
    go_enter Try.func26, Try.ntmps26
    go_wp2_with fail
    refine HV1.out.mono ?_
    rintro e w2 ⟨rfl, hg⟩
    have HG := Lib.hid hg.below
    clear hg
    go_wp2
    go_ret2
    exact ⟨rfl, HG.out⟩
  cases cb : canonB b
  · have HL : Hid (covB a b = false ∧ covE a b = 30) := by show _ ∧ _; simp [covB, covE, cb]
    rw [HL.out.1, HL.out.2]
    rw [ca] at HV1
    have CB := Lib.hid cb
    clear ha hb ca cb
    go_enter Try.func26, Try.ntmps26
    go_wp2_with fail
    refine HV1.out.mono ?_
    rintro e w2 ⟨rfl, hg⟩
    have HG := Lib.hid hg.below
    have hv2 := ivalid_calls vb b w2 (HB.out.later HG.out)
    rw [CB.out] at hv2
    have HV2 := Lib.hid hv2
    clear hg hv2
    go_wp2_with fail
    refine HV2.out.mono ?_
    rintro e w3 ⟨rfl, hg⟩
    have HG3 := Lib.hid (HG.out.trans (hg.below.mono HG.out.size))
    clear hg
    go_wp2
    go_ret2
    exact ⟨rfl, HG3.out⟩
  obtain ⟨o1, o2⟩ := canon_ord ca
  obtain ⟨p1, p2⟩ := canon_ord cb
  rw [ca] at HV1
  have CB := Lib.hid cb
  have O := Lib.hid (And.intro (And.intro o1 o2) (And.intro p1 p2))
  have HL : Hid (covB a b = decide ((combL opNot b a).length = 0) ∧ covE a b = 0) := by show _ ∧ _; simp [covB, covE, ca, cb]
  rw [HL.out.1, HL.out.2]
  obtain ⟨m, hm⟩ : ∃ m, (combL opNot b a).length = m := ⟨_, rfl⟩
  rw [hm]
  have HMM := Lib.hid hm
  clear ha hb ca cb o1 o2 p1 p2 hm
  go_enter Try.func26, Try.ntmps26
  go_wp2_with fail
  refine HV1.out.mono ?_
  rintro e w2 ⟨rfl, hg⟩
  have HG := Lib.hid hg.below
  have hv2 := ivalid_calls vb b w2 (HB.out.later HG.out)
  rw [CB.out] at hv2
  have HV2 := Lib.hid hv2
  clear hg hv2
  go_wp2_with fail
  refine HV2.out.mono ?_
  rintro e w3 ⟨rfl, hg⟩
  have HG3 := Lib.hid (HG.out.trans (hg.below.mono HG.out.size))
  have HM := Lib.hid (merge_without opNot (by rfl) without_fn vb va b a w3 (HB.out.later HG3.out) (HA.out.later HG3.out) O.out.2.1 O.out.1.1 (by have := O.out.2.2; omega) (by have := O.out.1.2; omega))
  clear hg
  go_wp2_with fail
  refine HM.out.mono ?_
  rintro e w4 ⟨v4, L, rfl, hl1, hl2, hl3, hl4, hb4⟩
  have hLe : L = combL opNot b a := combL_is hl1 hl2
  have hll : L.length ≤ 1000 := by have := O.out.1.2; have := O.out.2.2; omega
  have hiv := hl3.at_ (by omega)
  obtain ⟨a4, c4, rfl⟩ := iv_slice hiv
  have hlm : L.length = m := by rw [hLe]; exact HMM.out
  rw [hlm] at hll ⊢
  have HB4 := Lib.hid (HG3.out.trans (hb4.mono HG3.out.size))
  clear hl1 hl2 hl3 hl4 hb4 hiv hLe hlm HM HV2
  by_cases h0 : m = 0
  · subst h0
    go_wp2
    go_ret2
    exact ⟨rfl, HB4.out⟩
  · have e1 : ((m : Int) == 0) = false := by simp; omega
    have e2 : decide (m = 0) = false := by simp [h0]
    have E2 := Lib.hid e2
    clear e2
    go_wp2
    go_ret2
    exact ⟨by rw [E2.out]; rfl, HB4.out⟩
end Go.Proofs.Ytmjokpakekfkfaa
