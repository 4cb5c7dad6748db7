/- The contracts of the reference's kind, plain and valid. -/
import Derived.Test.YteihifhmoalafaaDoorPp
set_option linter.unusedSimpArgs false
set_option linter.unusedVariables false
namespace Go.Proofs.YteihifhmoalafaaDoor
open Go.RowKit

set_option maxHeartbeats 4000000 in
set_option maxRecDepth 100000 in
theorem refKind_calls (S S' : Nat → Prop) (vc vp : Value) (cols par : List Int) (o : Od) (w : World) (hc : IntsAt S w vc cols) (hp : IntsAt S' w vp par) : Calls Tryd.prog 66 #[vc, vp, o.val] w (IntG (kindO cols par o) w) := by
  obtain ⟨k, i, ⟨vk, vn, t⟩⟩ := o
  have HKO : Hid (kindO cols par ⟨k, i, ⟨vk, vn, t⟩⟩ = if k = 1 then kAt cols ⟨k, i, ⟨vk, vn, t⟩⟩ else if k = 2 then kAt par ⟨k, i, ⟨vk, vn, t⟩⟩ else if k = 3 then (if i = 0 ∧ realB ⟨vk, vn, t⟩ = true then vk else 0) else 0) := rfl
  obtain ⟨res, hres⟩ : ∃ res, kindO cols par ⟨k, i, ⟨vk, vn, t⟩⟩ = res := ⟨_, rfl⟩
  rw [hres] at HKO ⊢
  clear hres
  show Calls _ _ #[vc, vp, .agg #[.int .i64 k, .int .i64 i, .int .i64 vk, .int .i64 vn, .string t]] _ _
  obtain ⟨W, hW⟩ : ∃ W, W = w.alloc (oObj k i vk vn t) := ⟨_, rfl⟩
  have hg : Gro w W := by rw [hW]; exact (Gro.refl w).alloc _
  have hB : OBox W w.heap.size k i vk vn t := by rw [hW]; exact OBox.new w k i vk vn t
  have HC := Lib.hid (hc.later hg.below)
  have HP := Lib.hid (hp.later hg.below)
  have HR := Lib.hid (fun w' => refReal_calls ⟨vk, vn, t⟩ w')
  obtain ⟨a, cap, rfl, hl⟩ := hc.slice
  obtain ⟨a', cap', rfl, hl'⟩ := hp.slice
  have HB := Lib.hid hB
  have HG := Lib.hid hg
  have HW := Lib.hid hW
  obtain ⟨q0, q1, q2, q3, q4, q5⟩ := hB
  have hne := fun w => neqv_V vk vn 0 0 t ⟨#[]⟩ w
  have HZ : Hid (decide ((⟨vk, vn, t⟩ : V) = ⟨0, 0, ⟨#[]⟩⟩) = decide ((⟨vk, vn, t⟩ : V) = nilV)) := rfl
  rw [HZ.out] at hne
  obtain ⟨z, hz⟩ : ∃ z, decide ((⟨vk, vn, t⟩ : V) = nilV) = z := ⟨_, rfl⟩
  rw [hz] at hne
  have HZZ := Lib.hid hz
  clear hg hW hc hp hz HZ
  by_cases h3 : k = 3
  · subst h3
    replace HKO : Hid (res = if i = 0 ∧ realB ⟨vk, vn, t⟩ = true then vk else 0) := HKO.out
    generalize realB ⟨vk, vn, t⟩ = r at HR HKO
    by_cases h0 : i = 0
    · subst h0
      go_enter Tryd.func66, Tryd.ntmps66
      go_wp2_with fail
      rw [← HW.out]
      refine (HR.out W).mono ?_
      rintro e w2 ⟨rfl, hg2⟩
      obtain ⟨q0, q1, q2, q3, q4, q5⟩ := HB.out.later hg2.below
      have HG2 := Lib.hid (HG.out.trans hg2)
      clear hg2 HB HW
      generalize w.heap.size = gb at q0 q1 q2 q3 q4 q5 ⊢
      cases r with
      | false =>
        have HX : Hid (0 = res) := by show _ = _; rw [HKO.out]; simp
        go_wp2
        go_ret
        exact intg HX.out HG2.out
      | true =>
        have HX : Hid (vk = res) := by show _ = _; rw [HKO.out]; simp
        go_wp2
        go_ret
        exact intg HX.out HG2.out
    · have HX : Hid (0 = res) := by show _ = _; rw [HKO.out, if_neg (fun h => h0 h.1)]
      have hi : (i == 0) = false := by simpa using h0
      go_enter Tryd.func66, Tryd.ntmps66
      go_wp2
      go_ret
      rw [← HW.out]
      exact intg HX.out HG.out
  by_cases h2 : k = 2
  · subst h2
    replace HKO : Hid (res = kAt par ⟨2, i, ⟨vk, vn, t⟩⟩) := HKO.out
    rw [kAt_eq] at HKO
    replace HKO : Hid (res = if hasN par i = true ∧ (⟨vk, vn, t⟩ : V) = nilV then atI par i else 0) := HKO.out
    obtain ⟨N, hN⟩ : ∃ N, par.length = N := ⟨_, rfl⟩
    rw [hN] at hl' HP ⊢
    have HN := Lib.hid hN
    clear hN
    by_cases hi0 : i < 0
    · have HX : Hid (0 = res) := by show _ = _; rw [HKO.out, hasN_neg hi0]; simp
      have hd : decide (i < 0) = true := by simpa using hi0
      clear HKO
      go_enter Tryd.func66, Tryd.ntmps66
      go_wp2
      go_ret
      rw [← HW.out]
      exact intg HX.out HG.out
    by_cases hi1 : (N : Int) ≤ i
    · have HX : Hid (0 = res) := by show _ = _; rw [HKO.out, hasN_past (by rw [HN.out]; exact hi1)]; simp
      have hd : decide (i < 0) = false := by simpa using hi0
      have hd1 : decide ((N : Int) ≤ i) = true := by simpa using hi1
      clear HKO
      go_enter Tryd.func66, Tryd.ntmps66
      go_wp2
      go_ret
      rw [← HW.out]
      exact intg HX.out HG.out
    obtain ⟨n, rfl⟩ : ∃ n : Nat, i = n := ⟨i.toNat, by omega⟩
    have hn : n < par.length := by rw [HN.out]; omega
    obtain ⟨b, off, rfl, hb, -, d0⟩ := HP.out.get hn
    obtain ⟨x, hx⟩ : ∃ x, par[n] = x := ⟨_, rfl⟩
    rw [hx] at d0
    rw [hasN_in hn, atI_in hn, hx] at HKO
    have hd : decide ((n : Int) < 0) = false := by simp
    have hd1 : decide ((N : Int) ≤ n) = false := by simp; omega
    have hnN : (n : Int) < (N : Int) := by omega
    clear hx hn
    have hWe := HW.out
    cases z with
    | false =>
      have HX : Hid (0 = res) := by show _ = _; rw [HKO.out, if_neg (fun h => by have := HZZ.out; rw [decide_eq_true h.2] at this; cases this)]
      clear HKO hWe
      go_enter Tryd.func66, Tryd.ntmps66
      go_wp2
      go_ret
      rw [← HW.out]
      exact intg HX.out HG.out
    | true =>
      have HX : Hid (x = res) := by show _ = _; rw [HKO.out, if_pos ⟨rfl, of_decide_eq_true HZZ.out⟩]
      clear HKO HW HC HP HB HR
      subst hWe
      go_enter Tryd.func66, Tryd.ntmps66
      go_wp2
      go_ret
      exact intg HX.out HG.out
  by_cases h1 : k = 1
  · subst h1
    replace HKO : Hid (res = kAt cols ⟨1, i, ⟨vk, vn, t⟩⟩) := HKO.out
    rw [kAt_eq] at HKO
    replace HKO : Hid (res = if hasN cols i = true ∧ (⟨vk, vn, t⟩ : V) = nilV then atI cols i else 0) := HKO.out
    obtain ⟨N, hN⟩ : ∃ N, cols.length = N := ⟨_, rfl⟩
    rw [hN] at hl HC ⊢
    have HN := Lib.hid hN
    clear hN
    by_cases hi0 : i < 0
    · have HX : Hid (0 = res) := by show _ = _; rw [HKO.out, hasN_neg hi0]; simp
      have hd : decide (i < 0) = true := by simpa using hi0
      clear HKO
      go_enter Tryd.func66, Tryd.ntmps66
      go_wp2
      go_ret
      rw [← HW.out]
      exact intg HX.out HG.out
    by_cases hi1 : (N : Int) ≤ i
    · have HX : Hid (0 = res) := by show _ = _; rw [HKO.out, hasN_past (by rw [HN.out]; exact hi1)]; simp
      have hd : decide (i < 0) = false := by simpa using hi0
      have hd1 : decide ((N : Int) ≤ i) = true := by simpa using hi1
      clear HKO
      go_enter Tryd.func66, Tryd.ntmps66
      go_wp2
      go_ret
      rw [← HW.out]
      exact intg HX.out HG.out
    obtain ⟨n, rfl⟩ : ∃ n : Nat, i = n := ⟨i.toNat, by omega⟩
    have hn : n < cols.length := by rw [HN.out]; omega
    obtain ⟨b, off, rfl, hb, -, d0⟩ := HC.out.get hn
    obtain ⟨x, hx⟩ : ∃ x, cols[n] = x := ⟨_, rfl⟩
    rw [hx] at d0
    rw [hasN_in hn, atI_in hn, hx] at HKO
    have hd : decide ((n : Int) < 0) = false := by simp
    have hd1 : decide ((N : Int) ≤ n) = false := by simp; omega
    have hnN : (n : Int) < (N : Int) := by omega
    clear hx hn
    have hWe := HW.out
    cases z with
    | false =>
      have HX : Hid (0 = res) := by show _ = _; rw [HKO.out, if_neg (fun h => by have := HZZ.out; rw [decide_eq_true h.2] at this; cases this)]
      clear HKO hWe
      go_enter Tryd.func66, Tryd.ntmps66
      go_wp2
      go_ret
      rw [← HW.out]
      exact intg HX.out HG.out
    | true =>
      have HX : Hid (x = res) := by show _ = _; rw [HKO.out, if_pos ⟨rfl, of_decide_eq_true HZZ.out⟩]
      clear HKO HW HC HP HB HR
      subst hWe
      go_enter Tryd.func66, Tryd.ntmps66
      go_wp2
      go_ret
      exact intg HX.out HG.out
  have HX : Hid (0 = res) := by show _ = _; rw [HKO.out, if_neg h1, if_neg h2, if_neg h3]
  go_enter Tryd.func66, Tryd.ntmps66
  go_wp2
  go_ret
  rw [← HW.out]
  exact intg HX.out HG.out
theorem plainB_eq (cmp lk li lvk lvn rk ri rvk rvn : Int) (lvt rvt : ByteArray) : plainB cmp ⟨lk, li, ⟨lvk, lvn, lvt⟩⟩ ⟨rk, ri, ⟨rvk, rvn, rvt⟩⟩ = (decide (cmp = 0) && eqO ⟨lk, li, ⟨lvk, lvn, lvt⟩⟩ ⟨0, 0, ⟨0, 0, ⟨#[]⟩⟩⟩ && eqO ⟨rk, ri, ⟨rvk, rvn, rvt⟩⟩ ⟨0, 0, ⟨0, 0, ⟨#[]⟩⟩⟩) := by
  have h : ∀ (k i : Int) (v : V), decide (k = 0 ∧ i = 0 ∧ v = nilV) = eqO ⟨k, i, v⟩ ⟨0, 0, ⟨0, 0, ⟨#[]⟩⟩⟩ := fun k i v => by
    rw [Bool.eq_iff_iff]; unfold eqO nilV; simp only [Bool.and_eq_true, decide_eq_true_eq, and_assoc]
  unfold plainB
  rw [h, h]
set_option maxHeartbeats 2000000 in
set_option maxRecDepth 100000 in
theorem plain_calls (p : Pr) (sa : Option Addr) (sn sc : Nat) (w : World) : Calls Tryd.prog 65 #[p.val (.slice sa sn sc)] w (BoolG (plainB p.cmp p.l p.r) w) := by
  have mx := mixed
  obtain ⟨op, cmp, ⟨lk, li, ⟨lvk, lvn, lvt⟩⟩, ⟨rk, ri, ⟨rvk, rvn, rvt⟩⟩, args⟩ := p
  show Calls _ _ #[.agg #[.int .i64 op, .int .i64 cmp, .int .i64 lk, .int .i64 li, .int .i64 lvk, .int .i64 lvn, .string lvt, .int .i64 rk, .int .i64 ri, .int .i64 rvk, .int .i64 rvn, .string rvt, .slice sa sn sc]] _ (BoolG (plainB cmp ⟨lk, li, ⟨lvk, lvn, lvt⟩⟩ ⟨rk, ri, ⟨rvk, rvn, rvt⟩⟩) w)
  rw [plainB_eq]
  have he1 := fun w => eql_O lk li lvk lvn 0 0 0 0 lvt ⟨#[]⟩ w
  have he2 := fun w => eql_O rk ri rvk rvn 0 0 0 0 rvt ⟨#[]⟩ w
  have HG := Lib.hid (fun (O : Obj) => (Gro.refl w).alloc O)
  generalize eqO ⟨lk, li, ⟨lvk, lvn, lvt⟩⟩ ⟨0, 0, ⟨0, 0, ⟨#[]⟩⟩⟩ = x at he1 ⊢
  generalize eqO ⟨rk, ri, ⟨rvk, rvn, rvt⟩⟩ ⟨0, 0, ⟨0, 0, ⟨#[]⟩⟩⟩ = y at he2 ⊢
  by_cases h : cmp = 0
  · subst h
    rw [show decide ((0 : Int) = 0) = true from rfl, Bool.true_and]
    cases x with
    | false =>
      go_enter Tryd.func65, Tryd.ntmps65
      go_wp2
      go_ret
      exact boolg rfl (HG.out _)
    | true =>
      go_enter Tryd.func65, Tryd.ntmps65
      go_wp2
      go_ret
      exact boolg rfl (HG.out _)
  · have hc : (cmp == 0) = false := by simpa using h
    rw [decide_eq_false h, Bool.false_and, Bool.false_and]
    clear he1 he2
    go_enter Tryd.func65, Tryd.ntmps65
    go_wp2
    go_ret
    exact boolg rfl (HG.out _)
end Go.Proofs.YteihifhmoalafaaDoor
