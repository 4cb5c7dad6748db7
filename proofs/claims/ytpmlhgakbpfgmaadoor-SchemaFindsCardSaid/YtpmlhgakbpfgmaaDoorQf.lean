/- The contract of the case's Predicate. -/
import Derived.Test.YtpmlhgakbpfgmaaDoorQe
import Derived.Test.YtpmlhgakbpfgmaaDoorPv
set_option linter.unusedSimpArgs false
set_option linter.unusedVariables false
namespace Go.Proofs.YtpmlhgakbpfgmaaDoor
open Go.RowKit

theorem tree_calls (S : Nat → Prop) (b : Nat) (hS : ¬ S b) (c : CaseId) (vc vp : Value) (cols par : List Int) (hok : KindsOk cols) (hcl : cols.length ≤ 1000) (hpl : par.length ≤ 1000) : ∀ n, n ≤ 8 → TreeAt S b c vc vp cols par n
  | 0, h => tree_step S b hS c vc vp cols par hok hcl hpl 0 h (fun m hm => by omega)
  | n + 1, h => tree_step S b hS c vc vp cols par hok hcl hpl (n + 1) h (fun m hm => by
      obtain rfl : m = n := by omega
      exact tree_calls S b hS c vc vp cols par hok hcl hpl m (by omega))
/-- A predicate that is checked. -/
def GotPred (b : Nat) (c : CaseId) (cols par : List Int) (n : Nat) (w : World) (e : Ending) (w' : World) : Prop :=
  ∃ (p : Pr) (s : Value), e = .returned (p.val s) ∧ PrIn (fun g => w.heap.size ≤ g) w' (n + 1) s p.args ∧ checkE cols par p = 0 ∧ depthP p ≤ n + 2 ∧ CaseAt w' b c ∧ w.grownBy w' (some b)
theorem checkE_tree {cols par : List Int} {n : Nat} {p : Pr} (hc : KindsOk cols) (hp : KindsOk par) (h : TreeOk cols par n p) (hs : ¬ (24 < countP p ∨ 8 < depthP p)) : checkE cols par p = 0 := by
  unfold checkE
  rw [kindsOk_B hc, kindsOk_B hp, if_neg (by simp), if_neg hs, h.v, if_neg (by simp)]
theorem checkE_small {cols par : List Int} {n : Nat} {p : Pr} (hc : KindsOk cols) (hp : KindsOk par) (h : TreeOk cols par n p) (hs : checkE cols par p ≠ 2) : checkE cols par p = 0 := by
  refine checkE_tree hc hp h fun h2 => hs ?_
  unfold checkE
  rw [kindsOk_B hc, kindsOk_B hp, if_neg (by simp), if_pos h2]
set_option maxHeartbeats 8000000 in
set_option maxRecDepth 100000 in
theorem casePredicate_calls (S : Nat → Prop) (b : Nat) (hS : ¬ S b) (c : CaseId) (vc vp : Value) (cols par : List Int) (hok : KindsOk cols) (hpk : KindsOk par) (hcl : cols.length ≤ 1000) (hpl : par.length ≤ 1000) (n : Nat) (hn : n ≤ 8)
    (w : World) (hc : CaseAt w b c) (hkc : IntsAt S w vc cols) (hkp : IntsAt S w vp par) : Calls Tryd.prog 21 #[.pointer (some ⟨b, 0, none⟩), vc, vp, .int .i64 n] w (GotPred b c cols par n w) := by
  have HT1 := Lib.hid (tree_calls S b hS c vc vp cols par hok hcl hpl 1 (by omega))
  have HTN := Lib.hid (tree_calls S b hS c vc vp cols par hok hcl hpl n hn)
  obtain ⟨W, hW⟩ : ∃ W, W = w.alloc (.cells #[.int .i64 0, .int .i64 0, .int .i64 0, .int .i64 0, .int .i64 0, .int .i64 0, .string ⟨#[]⟩, .int .i64 0, .int .i64 0, .int .i64 0, .int .i64 0, .string ⟨#[]⟩, .slice none 0 0] 60) := ⟨_, rfl⟩
  have hal : w.grownBy W (none : Option Nat) := by rw [hW]; exact World.grownBy_alloc _ _ _
  have HBA := Lib.hid hal
  have HWS : Hid (W.heap.size = w.heap.size + 1) := by show _ = _; rw [hW]; simp
  have HCI := Lib.hid hc
  have HCW := Lib.hid (hc.grown hal)
  have HBL : Hid (b < w.heap.size) := hc.lt
  have HRB : Hid (∀ wf, W.grownBy wf (some b) → PBx wf w.heap.size (.mk 0 0 zeroO zeroO []) (.slice none 0 0)) := fun wf hg => by
    have h := PBx.new w (.mk 0 0 zeroO zeroO []) (.slice none 0 0) 60
    have h' : PBx W w.heap.size (.mk 0 0 zeroO zeroO []) (.slice none 0 0) := by rw [hW]; exact h
    exact h'.by_ hg (by have := HBL.out; simp; omega)
  have hkc' : IntsAt S W vc cols := hkc.kept (kept_by hal (fun g h => by cases h))
  have hkp' : IntsAt S W vp par := hkp.kept (kept_by hal (fun g h => by cases h))
  have HKC := Lib.hid (fun wr (hg : W.grownBy wr (some b)) => hkc'.kept (kept_by hg (fun g hg' => by cases hg'; exact hS)))
  have HKP := Lib.hid (fun wr (hg : W.grownBy wr (some b)) => hkp'.kept (kept_by hg (fun g hg' => by cases hg'; exact hS)))
  have HBW : Hid (W.grownBy W (some b)) := ⟨rfl, rfl, rfl, Nat.le_refl _, fun _ _ _ => rfl⟩
  obtain ⟨ka, kc, rfl, -⟩ := hkc.slice
  obtain ⟨pa, pc, rfl, -⟩ := hkp.slice
  generalize cols.length = N at HT1 HTN HKC ⊢
  generalize par.length = M at HT1 HTN HKP ⊢
  have HT := Lib.hid (HTN.out W HCW.out (HKC.out W HBW.out) (HKP.out W HBW.out))
  have HOKS := Lib.hid (And.intro hok hpk)
  have HW := Lib.hid hW
  clear hc hkc hkp hkc' hkp' hW hal hok hpk hcl hpl hn HTN
  go_enter Tryd.func21, Tryd.ntmps21
  go_wp2_with fail
  rw [← HW.out]
  refine HT.out.mono ?_
  rintro e w2 ⟨p, s, rfl, hps, htok, hc2, hby2⟩
  obtain ⟨sa, sc, rfl, hsl⟩ := hps.shape
  obtain ⟨w3, hw3⟩ : ∃ w3, w3 = w2.alloc (pBlock p (.slice sa p.args.length sc) 60) := ⟨_, rfl⟩
  have hpb : PBx w3 w2.heap.size p (.slice sa p.args.length sc) := by rw [hw3]; exact PBx.new _ _ _ _
  have hal3 : w2.grownBy w3 (none : Option Nat) := by rw [hw3]; exact World.grownBy_alloc _ _ _
  have hps3 : PrIn (fun g => w.heap.size < g) w3 n (.slice sa p.args.length sc) p.args := (hps.kept (kept_by hal3 fun g h => by cases h)).mono fun g _ hg => by have := HWS.out; omega
  have HB3 : Hid (W.grownBy w3 (some b)) := by_trans hby2 (by_some hal3 _)
  have HC3 : Hid (CaseAt w3 b c) := hc2.grown hal3
  have HCK := Lib.hid (refCheck_calls (fun g => w.heap.size < g) S S (.slice ka N kc) (.slice pa M pc) cols par n p (.slice sa p.args.length sc) w3 (HKC.out w3 HB3.out) (HKP.out w3 HB3.out) hps3)
  have HPS := Lib.hid hps3
  have HPB := Lib.hid hpb
  have HTK := Lib.hid htok
  have HW3 := Lib.hid hw3
  clear hps hsl htok hc2 hby2 hpb hal3 hps3 hw3 HT
  go_wp2_with fail
  have hw3' := HW3.out
  simp only [pBlock, pObj] at hw3'
  rw [← hw3']
  clear hw3' HW3
  generalize w2.heap.size = g at HPB ⊢
  obtain ⟨⟨bl, b0, b1, b2, b3, b4, b5, b6, b7, b8, b9, b10, b11, b12⟩, bf⟩ := HPB.out
  refine HCK.out.mono ?_
  rintro e w4 ⟨rfl, hg4⟩
  have HB4 : Hid (W.grownBy w4 (some b)) := by_trans HB3.out (gro_by hg4 _)
  have HC4 : Hid (CaseAt w4 b c) := HC3.out.grown (gro_by hg4 none)
  have HPS4 := Lib.hid (HPS.out.later hg4.below)
  have HPB4 := Lib.hid (HPB.out.by_ (gro_by hg4 none) (by simp))
  clear hg4 HPB HPS HB3 HC3 HCK bl b0 b1 b2 b3 b4 b5 b6 b7 b8 b9 b10 b11 b12 bf
  by_cases h2 : checkE cols par p = 2
  · have h2' : (checkE cols par p == 2) = true := by simpa using h2
    have HT := Lib.hid (HT1.out w4 HC4.out (HKC.out w4 HB4.out) (HKP.out w4 HB4.out))
    clear HPB4 HPS4
    go_wp2_with fail
    refine HT.out.mono ?_
    rintro e w5 ⟨p, s, rfl, hps, htok, hc5, hby5⟩
    obtain ⟨sa, sc, rfl, hsl⟩ := hps.shape
    have HC5 := Lib.hid hc5
    have HB5 := Lib.hid (by_trans HB4.out hby5)
    have HPS5 : Hid (PrIn (fun g => w.heap.size < g) w5 (n + 1) (.slice sa p.args.length sc) p.args) := (hps.deep (by omega)).mono fun g _ hg => by have := HWS.out; have := HB4.out.size; omega
    have HOK : Hid (checkE cols par p = 0 ∧ depthP p ≤ n + 2) := ⟨checkE_tree HOKS.out.1 HOKS.out.2 htok (by have h1 := htok.d; have h2 := htok.c; simp only [cntMax] at h2; omega), by have := htok.d; omega⟩
    obtain ⟨⟨l, c0, c1, c2, c3, c4, c5, c6, c7, c8, c9, c10, c11, c12⟩, f⟩ := HRB.out w5 HB5.out
    clear hps hsl htok hc5 hby5 HT h2 h2'
    simp only [op_mk, cmp_mk, l_mk, r_mk, zeroO, nilV] at c0 c1 c2 c3 c4 c5 c6 c7 c8 c9 c10 c11
    go_wp2
    exact bodyPost_ret (v := p.val (.slice sa p.args.length sc)) (by simp [results, Tryd.results21, go_sem, Pr.val, op_mk, cmp_mk, l_mk, r_mk, zeroO, nilV, c0, c1, c2, c3, c4, c5, c6, c7, c8, c9, c10, c11, c12, l]; try rfl) rfl
      (have h := fin_tree HCI.out (Nat.le_refl _) HC5.out (by_trans (by_some HBA.out _) HB5.out) HPS5.out _ _ _ _ _ _ _ _ _ _ _ _ _
      ⟨p, (.slice sa p.args.length sc), rfl, h.1, HOK.out.1, HOK.out.2, h.2.1, h.2.2⟩)
  · have h2' : (checkE cols par p == 2) = false := by simpa using h2
    have HOK : Hid (checkE cols par p = 0 ∧ depthP p ≤ n + 2) := ⟨checkE_small HOKS.out.1 HOKS.out.2 HTK.out h2, by have := HTK.out.d; omega⟩
    have HPS5 := Lib.hid (HPS4.out.deep (Nat.le_succ n))
    obtain ⟨⟨bl, b0, b1, b2, b3, b4, b5, b6, b7, b8, b9, b10, b11, b12⟩, bf⟩ := HPB4.out
    obtain ⟨⟨l, c0, c1, c2, c3, c4, c5, c6, c7, c8, c9, c10, c11, c12⟩, f⟩ := HRB.out w4 HB4.out
    clear h2 HPB4 HPS4
    simp only [op_mk, cmp_mk, l_mk, r_mk, zeroO, nilV] at c0 c1 c2 c3 c4 c5 c6 c7 c8 c9 c10 c11
    go_wp2
    exact bodyPost_ret (v := p.val (.slice sa p.args.length sc)) (by simp [results, Tryd.results21, go_sem, Pr.val, op_mk, cmp_mk, l_mk, r_mk, zeroO, nilV, c0, c1, c2, c3, c4, c5, c6, c7, c8, c9, c10, c11, c12, l]; try rfl) rfl
      (have h := fin_tree HCI.out (Nat.le_refl _) HC4.out (by_trans (by_some HBA.out _) HB4.out) HPS5.out _ _ _ _ _ _ _ _ _ _ _ _ _
      ⟨p, (.slice sa p.args.length sc), rfl, h.1, HOK.out.1, HOK.out.2, h.2.1, h.2.2⟩)
end Go.Proofs.YtpmlhgakbpfgmaaDoor
