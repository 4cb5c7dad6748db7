/- The contract of the reference's Compares and denoted. -/
import Derived.Test.YtndnlmpmloiiiaaDoorPe
set_option linter.unusedSimpArgs false
set_option linter.unusedVariables false
namespace Go.Proofs.YtndnlmpmloiiiaaDoor
open Go.RowKit

set_option maxHeartbeats 4000000 in
set_option maxRecDepth 100000 in
theorem refCompares_calls (cmp : Int) (a b : V) (w : World) : Calls Tryd.prog 45 #[.int .i64 cmp, a.val, b.val] w (BoolG (cpB cmp a b) w) := by
  have hT := Two3.new w a b 24
  obtain ⟨q, hq⟩ : ∃ q, cpB cmp a b = q := ⟨_, rfl⟩
  rw [hq]
  rw [cpB] at hq
  have HQ := Lib.hid hq
  have HRA := Lib.hid (fun w' => refReal_calls a w')
  have HRB := Lib.hid (fun w' => refReal_calls b w')
  have HCM := Lib.hid (fun w' => refCompare_calls a b w')
  obtain ⟨ra, hra⟩ : ∃ r, realB a = r := ⟨_, rfl⟩
  obtain ⟨rb, hrb⟩ : ∃ r, realB b = r := ⟨_, rfl⟩
  obtain ⟨d, hd⟩ : ∃ d, cmpV a b = d := ⟨_, rfl⟩
  rw [hra] at HRA HQ
  rw [hrb] at HRB HQ
  rw [hd] at HCM HQ
  clear hq hra hrb hd
  obtain ⟨ak, an, at_⟩ := a
  obtain ⟨bk, bn, bt⟩ := b
  replace HQ : Hid ((ra && rb && decide (ak = bk) && ordB cmp d) = q) := HQ.out
  obtain ⟨W, hW⟩ : ∃ W, W = (w.alloc (.cells #[.int .i64 ak, .int .i64 an, .string at_] 24)).alloc (.cells #[.int .i64 bk, .int .i64 bn, .string bt] 24) := ⟨_, rfl⟩
  have hg0 : Gro w W := by rw [hW]; exact ((Gro.refl w).alloc _).alloc _
  replace hT : Two3 W w.heap.size ⟨ak, an, at_⟩ ⟨bk, bn, bt⟩ := by rw [hW]; exact hT
  have HW := Lib.hid hW
  have HG := Lib.hid hg0
  obtain ⟨l0, l1, a0, a1, a2, b0, b1, b2⟩ := hT
  have hb : ((w.alloc (.cells #[.int .i64 ak, .int .i64 an, .string at_] 24)).heap.size = w.heap.size + 1) := by simp
  clear hW hg0
  go_enter Tryd.func45, Tryd.ntmps45
  go_wp2_with fail
  rw [← HW.out]
  clear HW hb
  generalize w.heap.size = gb at l0 l1 a0 a1 a2 b0 b1 b2 ⊢
  refine (wide (HRA.out W)).mono ?_
  rintro e w1 ⟨q1, os1, rfl, rfl⟩
  cases ra with
  | false =>
    have HE : Hid (false = q) := HQ.out
    clear HQ
    go_wp2
    go_ret
    exact boolg HE.out (HG.out.grown _ _)
  | true =>
    rw [Bool.true_and] at HQ
    go_wp2_with fail
    refine (wide (HRB.out _)).mono ?_
    rintro e w1 ⟨q1, os1, rfl, rfl⟩
    cases rb with
    | false =>
      have HE : Hid (false = q) := HQ.out
      clear HQ
      go_wp2
      go_ret
      exact boolg HE.out (HG.out.grown _ _)
    | true =>
      rw [Bool.true_and] at HQ
      by_cases hk : ak = bk
      · subst hk
        rw [show decide (ak = ak) = true from by simp, Bool.true_and] at HQ
        go_wp2_with fail
        refine (wide (HCM.out _)).mono ?_
        rintro e w1 ⟨q1, os1, rfl, rfl⟩
        by_cases h1 : cmp = 1
        · subst h1
          have HE : Hid ((decide (d = 0)) = q) := HQ.out
          clear HQ
          go_wp2
          go_ret
          exact boolg (HE.out ▸ (by first | rfl | (rw [Bool.eq_iff_iff]; simp) | simp)) (HG.out.grown _ _)
        by_cases h2 : cmp = 2
        · subst h2
          have HE : Hid ((!decide (d = 0)) = q) := HQ.out
          clear HQ
          go_wp2
          go_ret
          exact boolg (HE.out ▸ (by first | rfl | (rw [Bool.eq_iff_iff]; simp) | simp)) (HG.out.grown _ _)
        by_cases h3 : cmp = 3
        · subst h3
          have HE : Hid ((decide (d < 0)) = q) := HQ.out
          clear HQ
          go_wp2
          go_ret
          exact boolg (HE.out ▸ (by first | rfl | (rw [Bool.eq_iff_iff]; simp) | simp)) (HG.out.grown _ _)
        by_cases h4 : cmp = 4
        · subst h4
          have HE : Hid ((decide (d ≤ 0)) = q) := HQ.out
          clear HQ
          go_wp2
          go_ret
          exact boolg (HE.out ▸ (by first | rfl | (rw [Bool.eq_iff_iff]; simp) | simp)) (HG.out.grown _ _)
        by_cases h5 : cmp = 5
        · subst h5
          have HE : Hid ((decide (0 < d)) = q) := HQ.out
          clear HQ
          go_wp2
          go_ret
          exact boolg (HE.out ▸ (by first | rfl | (rw [Bool.eq_iff_iff]; simp) | simp)) (HG.out.grown _ _)
        by_cases h6 : cmp = 6
        · subst h6
          have HE : Hid ((decide (0 ≤ d)) = q) := HQ.out
          clear HQ
          go_wp2
          go_ret
          exact boolg (HE.out ▸ (by first | rfl | (rw [Bool.eq_iff_iff]; simp) | simp)) (HG.out.grown _ _)
        have HE : Hid (false = q) := by show _ = _; rw [← HQ.out]; unfold ordB; rw [if_neg h1, if_neg h2, if_neg h3, if_neg h4, if_neg h5, if_neg h6]
        clear HQ
        go_wp2
        go_ret
        exact boolg HE.out (HG.out.grown _ _)
      · rw [show decide (ak = bk) = false from by simp [hk]] at HQ
        have HE : Hid (false = q) := HQ.out
        have hk2 : (ak == bk) = false := by simpa using hk
        clear HQ
        go_wp2
        go_ret
        exact boolg HE.out (HG.out.grown _ _)
/-- Whether an operand denotes anything. -/
def okB (row par : List V) (o : Od) : Bool := if o.k = 1 then hasI row o.i else if o.k = 2 then hasI par o.i else decide (o.k = 3)
def DenOut (v : V) (b : Bool) (w : World) (e : Ending) (w' : World) : Prop := e = .returned (.tuple #[v.val, .bool b]) ∧ Gro w w'
theorem hasI_neg {l : List V} {i : Int} (h : i < 0) : hasI l i = false := by unfold hasI; rw [decide_eq_false (by omega)]; rfl
theorem hasI_past {l : List V} {i : Int} (h : (l.length : Int) ≤ i) : hasI l i = false := by unfold hasI; rw [decide_eq_false (p := i < l.length) (by omega), Bool.and_false]
theorem hasI_in {l : List V} {n : Nat} (h : n < l.length) : hasI l n = true := by unfold hasI; rw [decide_eq_true (by omega), decide_eq_true (by omega)]; rfl
set_option maxHeartbeats 4000000 in
set_option maxRecDepth 100000 in
theorem refDenoted_calls (o : Od) (va vb : Value) (row par : List V) (w : World) (ha : RowAt w va row) (hb : RowAt w vb par) : Calls Tryd.prog 44 #[o.val, va, vb] w (DenOut (denV row par o) (okB row par o) w) := by
  obtain ⟨W0, hW0⟩ : ∃ W, W = (w.alloc (.cells #[.int .i64 o.k, .int .i64 o.i, .int .i64 o.v.k, .int .i64 o.v.n, .string o.v.t] 26)).alloc (.cells #[.int .i64 0, .int .i64 0, .string ⟨#[]⟩] 24) := ⟨_, rfl⟩
  have hg0 : Gro w W0 := by rw [hW0]; exact ((Gro.refl w).alloc _).alloc _
  have ha0 := ha.later hg0.below
  have hb0 := hb.later hg0.below
  obtain ⟨a, cap, rfl, hl, -⟩ := ha
  obtain ⟨a', cap', rfl, hl', -⟩ := hb
  have HA := Lib.hid ha0
  have HB := Lib.hid hb0
  have HD : Hid (denV row par o = if o.k = 1 then atV row o.i else if o.k = 2 then atV par o.i else if o.k = 3 then o.v else nilV) := rfl
  have HO : Hid (okB row par o = if o.k = 1 then hasI row o.i else if o.k = 2 then hasI par o.i else decide (o.k = 3)) := rfl
  obtain ⟨N, hN⟩ : ∃ N, row.length = N := ⟨_, rfl⟩
  obtain ⟨M, hM⟩ : ∃ M, par.length = M := ⟨_, rfl⟩
  rw [hN] at hl ⊢
  rw [hM] at hl' ⊢
  have HN := Lib.hid hN
  have HM := Lib.hid hM
  obtain ⟨ok, oi, ⟨vk, vn, vt⟩⟩ := o
  replace hW0 : W0 = (w.alloc (.cells #[.int .i64 ok, .int .i64 oi, .int .i64 vk, .int .i64 vn, .string vt] 26)).alloc (.cells #[.int .i64 0, .int .i64 0, .string ⟨#[]⟩] 24) := hW0
  have HW0 := Lib.hid hW0
  have HG0 := Lib.hid hg0
  clear hW0 hg0 ha0 hb0 hN hM
  have hfin : ∀ v b, denV row par ⟨ok, oi, ⟨vk, vn, vt⟩⟩ = v → okB row par ⟨ok, oi, ⟨vk, vn, vt⟩⟩ = b → Calls Tryd.prog 44 #[.agg #[.int .i64 ok, .int .i64 oi, .int .i64 vk, .int .i64 vn, .string vt], .slice a N cap, .slice a' M cap'] w (DenOut v b w) → Calls Tryd.prog 44 #[.agg #[.int .i64 ok, .int .i64 oi, .int .i64 vk, .int .i64 vn, .string vt], .slice a N cap, .slice a' M cap'] w (DenOut (denV row par ⟨ok, oi, ⟨vk, vn, vt⟩⟩) (okB row par ⟨ok, oi, ⟨vk, vn, vt⟩⟩) w) := fun v b h1 h2 h => by rw [h1, h2]; exact h
  by_cases h1 : ok = 1
  · subst h1
    by_cases hi0 : oi < 0
    · have hd : decide ((0 : Int) ≤ oi) = false := decide_eq_false (by omega)
      refine hfin nilV false (HD.out.trans (atV_neg hi0)) (HO.out.trans (hasI_neg hi0)) ?_
      clear hfin HD HO
      go_enter Tryd.func44, Tryd.ntmps44
      go_wp2
      exact bodyPost_ret (v := .tuple #[nilV.val, .bool false]) (by simp [results, Tryd.results44, go_sem, V.val, nilV]; try rfl) rfl ⟨rfl, ((Gro.refl w).alloc _).alloc _⟩
    by_cases hi1 : (N : Int) ≤ oi
    · have hd : decide ((0 : Int) ≤ oi) = true := decide_eq_true (by omega)
      have hd1 : decide (oi < (N : Int)) = false := decide_eq_false (by omega)
      refine hfin nilV false (HD.out.trans (atV_past (by rw [HN.out]; exact hi1))) (HO.out.trans (hasI_past (by rw [HN.out]; exact hi1))) ?_
      clear hfin HD HO
      go_enter Tryd.func44, Tryd.ntmps44
      go_wp2
      exact bodyPost_ret (v := .tuple #[nilV.val, .bool false]) (by simp [results, Tryd.results44, go_sem, V.val, nilV]; try rfl) rfl ⟨rfl, ((Gro.refl w).alloc _).alloc _⟩
    · have hd : decide ((0 : Int) ≤ oi) = true := decide_eq_true (by omega)
      have hd1 : decide (oi < (N : Int)) = true := decide_eq_true (by omega)
      obtain ⟨n, rfl⟩ : ∃ n : Nat, oi = n := ⟨oi.toNat, by omega⟩
      have hn : n < row.length := by have := HN.out; omega
      obtain ⟨a1, c1, hv, -, hr⟩ := HA.out
      simp only [Value.slice.injEq] at hv
      obtain ⟨rfl, -, rfl⟩ := hv
      obtain ⟨b, off, rfl, hr2⟩ := hr.resolve_left (by rintro rfl; simp at hn)
      have hat := hr2.at_ n hn
      have hbl := hr2.blk
      obtain ⟨x, hx⟩ : ∃ x, row[n] = x := ⟨_, rfl⟩
      rw [hx] at hat
      have HX := Lib.hid hx
      have HNN := Lib.hid hn
      obtain ⟨xk, xn, xt⟩ := x
      obtain ⟨d0, d1, d2⟩ := hat
      simp only at d0 d1 d2
      refine hfin ⟨xk, xn, xt⟩ true (HD.out.trans ((atV_in HNN.out).trans HX.out)) (HO.out.trans (hasI_in HNN.out)) ?_
      clear hfin HD HO hr hr2 HG0
      have hnN : (n : Int) < (N : Int) := by omega
      rw [HW0.out] at d0 d1 d2 hbl
      clear HA HB HX hx HNN HN HM hi0 hi1 hn hl hl'
      go_enter Tryd.func44, Tryd.ntmps44
      go_wp2
      exact bodyPost_ret (v := .tuple #[V.val ⟨xk, xn, xt⟩, .bool true]) (by simp [results, Tryd.results44, go_sem, V.val]; try rfl) rfl ⟨rfl, ((Gro.refl w).alloc _).alloc _⟩
  by_cases h2 : ok = 2
  · subst h2
    clear h1
    by_cases hi0 : oi < 0
    · have hd : decide ((0 : Int) ≤ oi) = false := decide_eq_false (by omega)
      refine hfin nilV false (HD.out.trans (atV_neg hi0)) (HO.out.trans (hasI_neg hi0)) ?_
      clear hfin HD HO
      go_enter Tryd.func44, Tryd.ntmps44
      go_wp2
      exact bodyPost_ret (v := .tuple #[nilV.val, .bool false]) (by simp [results, Tryd.results44, go_sem, V.val, nilV]; try rfl) rfl ⟨rfl, ((Gro.refl w).alloc _).alloc _⟩
    by_cases hi1 : (M : Int) ≤ oi
    · have hd : decide ((0 : Int) ≤ oi) = true := decide_eq_true (by omega)
      have hd1 : decide (oi < (M : Int)) = false := decide_eq_false (by omega)
      refine hfin nilV false (HD.out.trans (atV_past (by rw [HM.out]; exact hi1))) (HO.out.trans (hasI_past (by rw [HM.out]; exact hi1))) ?_
      clear hfin HD HO
      go_enter Tryd.func44, Tryd.ntmps44
      go_wp2
      exact bodyPost_ret (v := .tuple #[nilV.val, .bool false]) (by simp [results, Tryd.results44, go_sem, V.val, nilV]; try rfl) rfl ⟨rfl, ((Gro.refl w).alloc _).alloc _⟩
    · have hd : decide ((0 : Int) ≤ oi) = true := decide_eq_true (by omega)
      have hd1 : decide (oi < (M : Int)) = true := decide_eq_true (by omega)
      obtain ⟨n, rfl⟩ : ∃ n : Nat, oi = n := ⟨oi.toNat, by omega⟩
      have hn : n < par.length := by have := HM.out; omega
      obtain ⟨a1, c1, hv, -, hr⟩ := HB.out
      simp only [Value.slice.injEq] at hv
      obtain ⟨rfl, -, rfl⟩ := hv
      obtain ⟨b, off, rfl, hr2⟩ := hr.resolve_left (by rintro rfl; simp at hn)
      have hat := hr2.at_ n hn
      have hbl := hr2.blk
      obtain ⟨x, hx⟩ : ∃ x, par[n] = x := ⟨_, rfl⟩
      rw [hx] at hat
      have HX := Lib.hid hx
      have HNN := Lib.hid hn
      obtain ⟨xk, xn, xt⟩ := x
      obtain ⟨d0, d1, d2⟩ := hat
      simp only at d0 d1 d2
      refine hfin ⟨xk, xn, xt⟩ true (HD.out.trans ((atV_in HNN.out).trans HX.out)) (HO.out.trans (hasI_in HNN.out)) ?_
      clear hfin HD HO hr hr2 HG0
      have hnN : (n : Int) < (M : Int) := by omega
      rw [HW0.out] at d0 d1 d2 hbl
      clear HA HB HX hx HNN HN HM hi0 hi1 hn hl hl'
      go_enter Tryd.func44, Tryd.ntmps44
      go_wp2
      exact bodyPost_ret (v := .tuple #[V.val ⟨xk, xn, xt⟩, .bool true]) (by simp [results, Tryd.results44, go_sem, V.val]; try rfl) rfl ⟨rfl, ((Gro.refl w).alloc _).alloc _⟩
  by_cases h3 : ok = 3
  · subst h3
    clear h1 h2
    refine hfin ⟨vk, vn, vt⟩ true HD.out HO.out ?_
    clear hfin HD HO
    go_enter Tryd.func44, Tryd.ntmps44
    go_wp2
    exact bodyPost_ret (v := .tuple #[V.val ⟨vk, vn, vt⟩, .bool true]) (by simp [results, Tryd.results44, go_sem, V.val]; try rfl) rfl ⟨rfl, ((Gro.refl w).alloc _).alloc _⟩
  refine hfin nilV false (by rw [HD.out, if_neg h1, if_neg h2, if_neg h3]) (by rw [HO.out, if_neg h1, if_neg h2, decide_eq_false h3]) ?_
  clear hfin HD HO
  go_enter Tryd.func44, Tryd.ntmps44
  go_wp2
  exact bodyPost_ret (v := .tuple #[nilV.val, .bool false]) (by simp [results, Tryd.results44, go_sem, V.val, nilV]; try rfl) rfl ⟨rfl, ((Gro.refl w).alloc _).alloc _⟩
end Go.Proofs.YtndnlmpmloiiiaaDoor
