/- The reference's Covers; the case's Bool and Interval. -/
import Derived.Test.YtmjokpakekfkfaaUa
import Derived.Test.YtmjokpakekfkfaaUb
import Derived.Test.YtmjokpakekfkfaaKa
import Derived.Test.YtmjokpakekfkfaaVu
set_option linter.unusedSimpArgs false
set_option linter.unusedVariables false
namespace Go.Proofs.Ytmjokpakekfkfaa
open Go.RowKit

theorem refCovers_calls (va vb : Value) (a b : List I) (w : World) (ha : IvAt w va a) (hb : IvAt w vb b) : Calls Try.prog 27 #[va, vb] w (CovOut (covB a b) (covE a b) w) := by
  have HA := Lib.hid ha
  have HB := Lib.hid hb
  have HV1 := Lib.hid (refIvalid_calls va a w ha)
  cases ca : canonB a
  · have HL : Hid (covB a b = false ∧ covE a b = 30) := by show _ ∧ _; simp [covB, covE, ca]
    rw [HL.out.1, HL.out.2]
    rw [ca] at HV1
    clear ha hb ca
    go_enter Try.func27, Try.ntmps27
    go_wp2_with fail
    refine HV1.out.mono ?_
    rintro e w2 ⟨rfl, hg⟩
    have HG := Lib.hid hg.below
    clear hg
    go_wp2
    go_ret2
    exact ⟨rfl, HG.out⟩
  cases cb : canonB b
  · have HL : Hid (covB a b = false ∧ covE a b = 30) := by show _ ∧ _; simp [covB, covE, cb]
    rw [HL.out.1, HL.out.2]
    rw [ca] at HV1
    have CB := Lib.hid cb
    clear ha hb ca cb
    go_enter Try.func27, Try.ntmps27
    go_wp2_with fail
    refine HV1.out.mono ?_
    rintro e w2 ⟨rfl, hg⟩
    have HG := Lib.hid hg.below
    have hv2 := refIvalid_calls vb b w2 (HB.out.later HG.out)
    rw [CB.out] at hv2
    have HV2 := Lib.hid hv2
    clear hg hv2
    go_wp2_with fail
    refine HV2.out.mono ?_
    rintro e w3 ⟨rfl, hg⟩
    have HG3 := Lib.hid (HG.out.trans (hg.below.mono HG.out.size))
    clear hg
    go_wp2
    go_ret2
    exact ⟨rfl, HG3.out⟩
  obtain ⟨o1, o2⟩ := canon_ord ca
  obtain ⟨p1, p2⟩ := canon_ord cb
  rw [ca] at HV1
  have CB := Lib.hid cb
  have O := Lib.hid (And.intro (And.intro o1 o2) (And.intro p1 p2))
  have HL : Hid (covB a b = decide ((combL opNot b a).length = 0) ∧ covE a b = 0) := by show _ ∧ _; simp [covB, covE, ca, cb]
  rw [HL.out.1, HL.out.2]
  obtain ⟨m, hm⟩ : ∃ m, (combL opNot b a).length = m := ⟨_, rfl⟩
  rw [hm]
  have HMM := Lib.hid hm
  clear ha hb ca cb o1 o2 p1 p2 hm
  go_enter Try.func27, Try.ntmps27
  go_wp2_with fail
  refine HV1.out.mono ?_
  rintro e w2 ⟨rfl, hg⟩
  have HG := Lib.hid hg.below
  have hv2 := refIvalid_calls vb b w2 (HB.out.later HG.out)
  rw [CB.out] at hv2
  have HV2 := Lib.hid hv2
  clear hg hv2
  go_wp2_with fail
  refine HV2.out.mono ?_
  rintro e w3 ⟨rfl, hg⟩
  have HG3 := Lib.hid (HG.out.trans (hg.below.mono HG.out.size))
  obtain ⟨l1, l2, hv⟩ := canon_edges (canon_of O.out.2.1 O.out.2.2) (canon_of O.out.1.1 O.out.1.2)
  have HM := Lib.hid (refCombine_calls 3 opNot rfl apply_not vb va b a w3 (HB.out.later HG3.out) (HA.out.later HG3.out) (by omega) (by omega) hv)
  clear hg hv
  go_wp2_with fail
  refine HM.out.mono ?_
  rintro e w4 ⟨v4, rfl, hown, hb4, _, _, hlen⟩
  have hll : (combL opNot b a).length ≤ 1000 := by omega
  have hiv := OwnI.at_ hown (by omega)
  obtain ⟨a4, c4, rfl⟩ := iv_slice hiv
  rw [HMM.out] at hll ⊢
  have HB4 := Lib.hid (HG3.out.trans (hb4.mono HG3.out.size))
  clear hown hb4 hiv hlen HM HV2
  by_cases h0 : m = 0
  · subst h0
    go_wp2
    go_ret2
    exact ⟨rfl, HB4.out⟩
  · have e1 : ((m : Int) == 0) = false := by simp; omega
    have e2 : decide (m = 0) = false := by simp [h0]
    have E2 := Lib.hid e2
    clear e2
    go_wp2
    go_ret2
    exact ⟨by rw [E2.out]; rfl, HB4.out⟩
theorem bool4_calls (b : Nat) (c : CaseId) (w : World) (hc : CaseAt w b c) : Calls Try.prog 34 #[.pointer (some ⟨b, 0, none⟩), .int .i64 4] w (GotB b c w) := by
  have HI := Lib.hid (int_calls b c 4 (by omega) (by omega) w hc)
  clear hc
  go_enter Try.func34, Try.ntmps34
  go_wp2_with fail
  refine HI.out.mono ?_
  rintro e w2 ⟨x, rfl, h0, h1, hc2, hb2⟩
  have HC := Lib.hid (And.intro hc2 hb2)
  clear hc2 hb2 HI
  go_wp2
  go_ret
  exact ⟨_, rfl, HC.out.1, HC.out.2⟩
/-- A list of intervals in canonical order that a case has made. -/
def GotI (b : Nat) (c : CaseId) (w : World) (e : Ending) (w' : World) : Prop :=
  ∃ v L, e = .returned v ∧ OwnI (b + 1) w' v L ∧ OrdL L ∧ L.length ≤ 4 ∧ CaseAt w' b c ∧ w.grownBy w' (some b)
theorem own_off {b : Nat} {w w' : World} {v : Value} {n : Nat} {e : TypeId} {size : Nat} {xs : List Value} (h : w.ownsRow (b + 1) e size v n xs) (hg : w.grownBy w' (some b)) : w'.ownsRow (b + 1) e size v n xs :=
  h.kept hg (by
    cases hv : v.ownBlock with
    | none => exact .inl rfl
    | some k => exact .inr (by have := (h.lt k hv).1; simp; omega))
theorem edges_valid {a b : List I} (ha : OrdL a) (hb : OrdL b) : ∀ x ∈ edges (a ++ b), validB x = true := fun x hx => by
  rw [edges_app] at hx
  rcases List.mem_append.1 hx with hx | hx
  · exact (edges_ok ha).2.1 x hx
  · exact (edges_ok hb).2.1 x hx
theorem by_below {w w' : World} {r : Option Nat} (h : Below w.heap.size w w') : w.grownBy w' r := ⟨h.os, h.tape, h.output, h.size, fun k hk _ => h.block k hk⟩
theorem CaseAt.gro {w w' : World} {b : Nat} {c : CaseId} (h : CaseAt w b c) (hw : Gro w w') : CaseAt w' b c := h.grown (gro_by hw none)
theorem CaseAt.beh {w w' : World} {b : Nat} {c : CaseId} (h : CaseAt w b c) (hw : Below w.heap.size w w') : CaseAt w' b c := h.grown (by_below hw)
theorem small_between (x y : V) : OrdL (betweenL x y) ∧ (betweenL x y).length ≤ 1 := by
  unfold betweenL
  split
  · rename_i h
    exact ⟨.one (by unfold partB; rw [if_neg (by simp)]; simp [h.1, h.2.1, h.2.2]), by simp⟩
  · exact ⟨.nil, by simp⟩
theorem small_from (x : V) : OrdL (fromL x) ∧ (fromL x).length ≤ 1 := by
  unfold fromL
  split
  · rename_i h
    exact ⟨.one (by unfold partB; rw [if_pos rfl]; simp [h]), by simp⟩
  · exact ⟨.nil, by simp⟩
theorem small_one (x : V) : OrdL (oneL x) ∧ (oneL x).length ≤ 1 := by
  unfold oneL
  split
  · exact small_between _ _
  · exact small_from _
set_option maxHeartbeats 4000000 in
set_option maxRecDepth 100000 in
theorem caseInterval_calls (b : Nat) (c : CaseId) (w : World) (hc : CaseAt w b c) : Calls Try.prog 7 #[.pointer (some ⟨b, 0, none⟩)] w (GotI b c w) := by
  have HI := Lib.hid (int_calls b c 3 (by omega) (by omega) w hc)
  have HLT := Lib.hid hc.lt
  clear hc
  go_enter Try.func7, Try.ntmps7
  go_wp2_with fail
  refine HI.out.mono ?_
  rintro e w1 ⟨x, rfl, h0, h1, hc1, hb1⟩
  obtain ⟨m, rfl⟩ : ∃ m : Nat, x = m := ⟨x.toNat, by omega⟩
  have hm : m ≤ 2 := by omega
  have HM := Lib.hid hm
  have HC1 := Lib.hid hc1
  have HB1 := Lib.hid hb1
  have hw1 : wrap64 (1 + (m : Int)) = 1 + (m : Int) := by unfold wrap64; omega
  clear hc1 hb1 h0 h1 HI hm
  go_wp2_with fail
  generalize wrap64 (1 + (m : Int)) = z at hw1 ⊢
  subst hw1
  go_loopw [3, 4] (fun v n wr => ∃ (L : List I) (k : Nat), n = .int .i64 k ∧ k + L.length ≤ 3 ∧ OwnI (b + 1) wr v L ∧ OrdL L ∧ CaseAt wr b c ∧ w.grownBy wr (some b)) (fun _ n _ => (intOf n).toNat)
  case atStart => exact ⟨[], 1 + m, by simp, by have := HM.out; simp; omega, World.ownsRow_nil _ _ _ _, .nil, HC1.out, HB1.out⟩
  case round =>
    obtain ⟨L, k, rfl, hk, hiv, hord, hcs, hby⟩ := hrel
    have HK := Lib.hid hk
    have HIV := Lib.hid hiv
    have HOR := Lib.hid hord
    have HCS := Lib.hid hcs
    have HBY := Lib.hid hby
    clear hiv hord hcs hby
    by_cases h0 : 0 < k
    · have hd : decide ((0 : Int) < (k : Int)) = true := by simp; omega
      have hwk : wrap64 ((k : Int) - 1) = (k : Int) - 1 := by unfold wrap64; omega
      have HK0 := Lib.hid h0
      go_wp2_with fail
      refine (any_calls b c _ HCS.out).mono ?_
      rintro e w2 ⟨⟨xk, xn, xt⟩, rfl, hval2, hnum2, hcs2, hby2⟩
      have HC2 := Lib.hid hcs2
      have HB2 := Lib.hid hby2
      have HN2 := Lib.hid (And.intro hval2 hnum2)
      clear hval2 hnum2 hcs2 hby2
      go_wp2_with fail
      refine (any_calls b c _ HC2.out).mono ?_
      rintro e w3 ⟨⟨yk, yn, yt⟩, rfl, hval3, hnum3, hcs3, hby3⟩
      have HC3 := Lib.hid hcs3
      have HB3 := Lib.hid (by_trans HB2.out hby3)
      have HN3 := Lib.hid (And.intro hval3 hnum3)
      have HIV3 := Lib.hid (own_off HIV.out HB3.out)
      have hb3 := hcs3.lt
      have HLB := Lib.hid hb3
      have HCMP := Lib.hid (fun w' => refCompare_calls ⟨xk, xn, xt⟩ ⟨yk, yn, yt⟩ w')
      obtain ⟨d, hd1⟩ : ∃ d, cmpV ⟨xk, xn, xt⟩ ⟨yk, yn, yt⟩ = d := ⟨_, rfl⟩
      rw [hd1] at HCMP
      clear hval3 hnum3 hcs3 hby3 hd1 hk
      go_wp2_with fail
      obtain ⟨W, hW⟩ : ∃ W, W = (w3.alloc (.cells #[.int .i64 xk, .int .i64 xn, .string xt] 25)).alloc (.cells #[.int .i64 yk, .int .i64 yn, .string yt] 25) := ⟨_, rfl⟩
      rw [← hW]
      have hgW : Gro w3 W := by rw [hW]; exact ((Gro.refl _).alloc _).alloc _
      have hx : Box W w3.heap.size ⟨xk, xn, xt⟩ := by rw [hW]; exact ⟨by simp; omega, by go_simp, by go_simp, by go_simp⟩
      have hy : Box W (w3.heap.size + 1) ⟨yk, yn, yt⟩ := by rw [hW]; exact ⟨by simp, by go_simp, by go_simp, by go_simp⟩
      have hfx : ∀ o, W.frozen? ⟨w3.heap.size, o, none⟩ = false := fun o => by rw [hW]; go_simp
      have hfy : ∀ o, W.frozen? ⟨w3.heap.size + 1, o, none⟩ = false := fun o => by rw [hW]; go_simp
      clear hW
      refine (HCMP.out W).mono ?_
      rintro e w4 ⟨rfl, hg4⟩
      have hx4 := hx.later hg4.below
      have hy4 := hy.later hg4.below
      have hfx4 : ∀ o, w4.frozen? ⟨w3.heap.size, o, none⟩ = false := fun o => by rw [World.frozen?_of_block (w := W) (hg4.below.block _ hx.lt)]; exact hfx o
      have hfy4 : ∀ o, w4.frozen? ⟨w3.heap.size + 1, o, none⟩ = false := fun o => by rw [World.frozen?_of_block (w := W) (hg4.below.block _ hy.lt)]; exact hfy o
      have hg34 := hgW.trans hg4
      have HC4 := Lib.hid (HC3.out.gro hg34)
      have HIV4 := Lib.hid (own_later HIV3.out hg34.below)
      have HB4 := Lib.hid (by_trans HB3.out (gro_by hg34 _))
      have HG34 := Lib.hid hg34
      clear hgW hx hy hfx hfy hg4 HCMP hg34 W
      obtain ⟨gx, hgx⟩ : ∃ gx, w3.heap.size = gx := ⟨_, rfl⟩
      have HGX := Lib.hid hgx
      rw [hgx] at hx4 hy4 hfx4 hfy4 ⊢
      have hgb : gx ≠ b := by omega
      have hgb' : gx + 1 ≠ b := by omega
      have HGB := Lib.hid (And.intro hgb hgb')
      obtain ⟨lx, x0, x1, x2⟩ := hx4.cells
      obtain ⟨ly, y0, y1, y2⟩ := hy4.cells
      clear hgx
      by_cases hd0 : 0 < d
      · have hd' : decide ((0 : Int) < d) = true := by simpa using hd0
        have fx0 := hfx4 0
        have fx1 := hfx4 1
        have fx2 := hfx4 2
        have fy0 := hfy4 0
        have fy1 := hfy4 1
        have fy2 := hfy4 2
        clear hfx4 hfy4
        have HX4 := Lib.hid hx4
        have HY4 := Lib.hid hy4
        clear hx4 hy4
        go_wp2_with fail
        obtain ⟨w5, hw5⟩ : ∃ w5, w5 = ((((((w4.setCell ⟨gx, 0, none⟩ (.int .i64 yk)).setCell ⟨gx, 1, none⟩ (.int .i64 yn)).setCell ⟨gx, 2, none⟩ (.string yt)).setCell ⟨gx + 1, 0, none⟩ (.int .i64 xk)).setCell ⟨gx + 1, 1, none⟩ (.int .i64 xn)).setCell ⟨gx + 1, 2, none⟩ (.string xt)) := ⟨_, rfl⟩
        rw [← hw5]
        have hle := Nat.le_of_eq HGX.out
        have hg5 : w3.grownBy w5 none := by
          rw [hw5]
          exact by_store_new (by_store_new (by_store_new (by_store_new (by_store_new (by_store_new (gro_by HG34.out none) hle _) hle _) hle _) (Nat.le_succ_of_le hle) _) (Nat.le_succ_of_le hle) _) (Nat.le_succ_of_le hle) _
        have hs5 : w5.heap.size = w4.heap.size := by rw [hw5]; simp [World.setCell]
        have hx5 : Box w5 gx ⟨yk, yn, yt⟩ := ⟨by omega, by rw [hw5]; go_simp, by rw [hw5]; go_simp, by rw [hw5]; go_simp⟩
        have hy5 : Box w5 (gx + 1) ⟨xk, xn, xt⟩ := ⟨by omega, by rw [hw5]; go_simp, by rw [hw5]; go_simp, by rw [hw5]; go_simp⟩
        have HX := Lib.hid hx5
        have HY := Lib.hid hy5
        have HC4 := Lib.hid (HC3.out.grown hg5)
        have HIV4 := Lib.hid (own_off HIV3.out (by_some hg5 (some b)))
        have HB4 := Lib.hid (by_trans HB3.out (by_some hg5 _))
        clear hx5 hy5 hs5 hg5 hw5 hle lx x0 x1 x2 ly y0 y1 y2 fx0 fx1 fx2 fy0 fy1 fy2
        refine (int_calls b c 5 (by omega) (by omega) _ HC4.out).mono ?_
        rintro e w6 ⟨r, rfl, hr0, hr1, hc6, hb6⟩
        have HC6 := Lib.hid hc6
        have HB6 := Lib.hid (by_trans HB4.out hb6)
        have HIV6 := Lib.hid (own_off HIV4.out hb6)
        have HX6 := Lib.hid (HX.out.kept hb6 HGB.out.1)
        have HY6 := Lib.hid (HY.out.kept hb6 HGB.out.2)
        obtain ⟨lx, x0, x1, x2⟩ := HX6.out.cells
        obtain ⟨ly, y0, y1, y2⟩ := HY6.out.cells
        clear hc6 hb6
        have HF := Lib.hid (fun w' => refFrom_calls ⟨yk, yn, yt⟩ w')
        have HO := Lib.hid (fun w' => refOne_calls ⟨yk, yn, yt⟩ HN3.out.2.1 HN3.out.2.2 w')
        have HT := Lib.hid (fun w' => refBetween_calls ⟨yk, yn, yt⟩ ⟨xk, xn, xt⟩ w')
        have SF := Lib.hid (small_from ⟨yk, yn, yt⟩)
        have SO := Lib.hid (small_one ⟨yk, yn, yt⟩)
        have ST := Lib.hid (small_between ⟨yk, yn, yt⟩ ⟨xk, xn, xt⟩)
        generalize fromL ⟨yk, yn, yt⟩ = LF at HF SF
        generalize oneL ⟨yk, yn, yt⟩ = LO at HO SO
        generalize betweenL ⟨yk, yn, yt⟩ ⟨xk, xn, xt⟩ = LT at HT ST
        generalize fromE ⟨yk, yn, yt⟩ = EF at HF
        generalize oneE ⟨yk, yn, yt⟩ = EO at HO
        generalize betweenE ⟨yk, yn, yt⟩ ⟨xk, xn, xt⟩ = ET at HT
        by_cases r0 : r = 0
        · subst r0
          go_wp2_with fail
          refine (HF.out _).mono ?_
          rintro e w7 ⟨v7, rfl, hi7, hg7⟩
          have HS := SF
          generalize LF = L7 at hi7 HS
          have HI7 := Lib.hid hi7
          have HIV7 := Lib.hid (own_later HIV6.out hg7.below)
          have HC7 := Lib.hid (HC6.out.gro hg7)
          have HB7 := Lib.hid (by_trans HB6.out (gro_by hg7 _))
          have HCO := Lib.hid (comb_ord (f := opOr) rfl HOR.out HS.out.1)
          have HCC := Lib.hid (refCombine_calls 1 opOr rfl apply_or u3 v7 L L7 w7 (OwnI.at_ HIV7.out (by have := HK.out; omega)) hi7 (by have := HK.out; omega) (by have := HS.out.2; omega) (edges_valid HOR.out HS.out.1))
          clear hi7 hg7 lx x0 x1 x2 ly y0 y1 y2 HF HO HT
          go_wp2_with fail
          refine HCC.out.mono ?_
          rintro e w8 ⟨v8, rfl, hown8, hb8, _, _, _⟩
          have HO8 : Hid (OwnI (b + 1) w8 v8 (combL opOr L L7)) := ownsRow_mono hown8 (by have := HC7.out.lt; omega)
          have HC8 := Lib.hid (HC7.out.beh hb8)
          have HB8 := Lib.hid (by_trans HB7.out (by_below hb8))
          clear hown8 hb8
          have hk0 := HK0.out
          go_wp2
          generalize wrap64 ((k : Int) - 1) = z at hwk ⊢
          subst hwk
          exact ⟨⟨combL opOr L L7, k - 1, by congr 1; omega, by have := HCO.out.2.2; have := HS.out.2; have := HK.out; omega, HO8.out, HCO.out.1, HC8.out, by_trans HBY.out HB8.out⟩, by simp [intOf]; omega⟩
        have q0 : (r == 0) = false := by simpa using r0
        by_cases r1 : r = 1
        · subst r1
          go_wp2_with fail
          refine (HO.out _).mono ?_
          rintro e w7 ⟨v7, rfl, hi7, hg7⟩
          have HS := SO
          generalize LO = L7 at hi7 HS
          have HI7 := Lib.hid hi7
          have HIV7 := Lib.hid (own_later HIV6.out hg7.below)
          have HC7 := Lib.hid (HC6.out.gro hg7)
          have HB7 := Lib.hid (by_trans HB6.out (gro_by hg7 _))
          have HCO := Lib.hid (comb_ord (f := opOr) rfl HOR.out HS.out.1)
          have HCC := Lib.hid (refCombine_calls 1 opOr rfl apply_or u3 v7 L L7 w7 (OwnI.at_ HIV7.out (by have := HK.out; omega)) hi7 (by have := HK.out; omega) (by have := HS.out.2; omega) (edges_valid HOR.out HS.out.1))
          clear hi7 hg7 lx x0 x1 x2 ly y0 y1 y2 HF HO HT
          go_wp2_with fail
          refine HCC.out.mono ?_
          rintro e w8 ⟨v8, rfl, hown8, hb8, _, _, _⟩
          have HO8 : Hid (OwnI (b + 1) w8 v8 (combL opOr L L7)) := ownsRow_mono hown8 (by have := HC7.out.lt; omega)
          have HC8 := Lib.hid (HC7.out.beh hb8)
          have HB8 := Lib.hid (by_trans HB7.out (by_below hb8))
          clear hown8 hb8
          have hk0 := HK0.out
          go_wp2
          generalize wrap64 ((k : Int) - 1) = z at hwk ⊢
          subst hwk
          exact ⟨⟨combL opOr L L7, k - 1, by congr 1; omega, by have := HCO.out.2.2; have := HS.out.2; have := HK.out; omega, HO8.out, HCO.out.1, HC8.out, by_trans HBY.out HB8.out⟩, by simp [intOf]; omega⟩
        · have q1 : (r == 1) = false := by simpa using r1
          go_wp2_with fail
          refine (HT.out _).mono ?_
          rintro e w7 ⟨v7, rfl, hi7, hg7⟩
          have HS := ST
          generalize LT = L7 at hi7 HS
          have HI7 := Lib.hid hi7
          have HIV7 := Lib.hid (own_later HIV6.out hg7.below)
          have HC7 := Lib.hid (HC6.out.gro hg7)
          have HB7 := Lib.hid (by_trans HB6.out (gro_by hg7 _))
          have HCO := Lib.hid (comb_ord (f := opOr) rfl HOR.out HS.out.1)
          have HCC := Lib.hid (refCombine_calls 1 opOr rfl apply_or u3 v7 L L7 w7 (OwnI.at_ HIV7.out (by have := HK.out; omega)) hi7 (by have := HK.out; omega) (by have := HS.out.2; omega) (edges_valid HOR.out HS.out.1))
          clear hi7 hg7 lx x0 x1 x2 ly y0 y1 y2 HF HO HT
          go_wp2_with fail
          refine HCC.out.mono ?_
          rintro e w8 ⟨v8, rfl, hown8, hb8, _, _, _⟩
          have HO8 : Hid (OwnI (b + 1) w8 v8 (combL opOr L L7)) := ownsRow_mono hown8 (by have := HC7.out.lt; omega)
          have HC8 := Lib.hid (HC7.out.beh hb8)
          have HB8 := Lib.hid (by_trans HB7.out (by_below hb8))
          clear hown8 hb8
          have hk0 := HK0.out
          go_wp2
          generalize wrap64 ((k : Int) - 1) = z at hwk ⊢
          subst hwk
          exact ⟨⟨combL opOr L L7, k - 1, by congr 1; omega, by have := HCO.out.2.2; have := HS.out.2; have := HK.out; omega, HO8.out, HCO.out.1, HC8.out, by_trans HBY.out HB8.out⟩, by simp [intOf]; omega⟩
      · have hd' : decide ((0 : Int) < d) = false := by simpa using hd0
        clear hfx4 hfy4
        have HX := Lib.hid hx4
        have HY := Lib.hid hy4
        clear hx4 hy4
        go_wp2_with fail
        refine (int_calls b c 5 (by omega) (by omega) _ HC4.out).mono ?_
        rintro e w6 ⟨r, rfl, hr0, hr1, hc6, hb6⟩
        have HC6 := Lib.hid hc6
        have HB6 := Lib.hid (by_trans HB4.out hb6)
        have HIV6 := Lib.hid (own_off HIV4.out hb6)
        have HX6 := Lib.hid (HX.out.kept hb6 HGB.out.1)
        have HY6 := Lib.hid (HY.out.kept hb6 HGB.out.2)
        obtain ⟨lx, x0, x1, x2⟩ := HX6.out.cells
        obtain ⟨ly, y0, y1, y2⟩ := HY6.out.cells
        clear hc6 hb6
        have HF := Lib.hid (fun w' => refFrom_calls ⟨xk, xn, xt⟩ w')
        have HO := Lib.hid (fun w' => refOne_calls ⟨xk, xn, xt⟩ HN2.out.2.1 HN2.out.2.2 w')
        have HT := Lib.hid (fun w' => refBetween_calls ⟨xk, xn, xt⟩ ⟨yk, yn, yt⟩ w')
        have SF := Lib.hid (small_from ⟨xk, xn, xt⟩)
        have SO := Lib.hid (small_one ⟨xk, xn, xt⟩)
        have ST := Lib.hid (small_between ⟨xk, xn, xt⟩ ⟨yk, yn, yt⟩)
        generalize fromL ⟨xk, xn, xt⟩ = LF at HF SF
        generalize oneL ⟨xk, xn, xt⟩ = LO at HO SO
        generalize betweenL ⟨xk, xn, xt⟩ ⟨yk, yn, yt⟩ = LT at HT ST
        generalize fromE ⟨xk, xn, xt⟩ = EF at HF
        generalize oneE ⟨xk, xn, xt⟩ = EO at HO
        generalize betweenE ⟨xk, xn, xt⟩ ⟨yk, yn, yt⟩ = ET at HT
        by_cases r0 : r = 0
        · subst r0
          go_wp2_with fail
          refine (HF.out _).mono ?_
          rintro e w7 ⟨v7, rfl, hi7, hg7⟩
          have HS := SF
          generalize LF = L7 at hi7 HS
          have HI7 := Lib.hid hi7
          have HIV7 := Lib.hid (own_later HIV6.out hg7.below)
          have HC7 := Lib.hid (HC6.out.gro hg7)
          have HB7 := Lib.hid (by_trans HB6.out (gro_by hg7 _))
          have HCO := Lib.hid (comb_ord (f := opOr) rfl HOR.out HS.out.1)
          have HCC := Lib.hid (refCombine_calls 1 opOr rfl apply_or u3 v7 L L7 w7 (OwnI.at_ HIV7.out (by have := HK.out; omega)) hi7 (by have := HK.out; omega) (by have := HS.out.2; omega) (edges_valid HOR.out HS.out.1))
          clear hi7 hg7 lx x0 x1 x2 ly y0 y1 y2 HF HO HT
          go_wp2_with fail
          refine HCC.out.mono ?_
          rintro e w8 ⟨v8, rfl, hown8, hb8, _, _, _⟩
          have HO8 : Hid (OwnI (b + 1) w8 v8 (combL opOr L L7)) := ownsRow_mono hown8 (by have := HC7.out.lt; omega)
          have HC8 := Lib.hid (HC7.out.beh hb8)
          have HB8 := Lib.hid (by_trans HB7.out (by_below hb8))
          clear hown8 hb8
          have hk0 := HK0.out
          go_wp2
          generalize wrap64 ((k : Int) - 1) = z at hwk ⊢
          subst hwk
          exact ⟨⟨combL opOr L L7, k - 1, by congr 1; omega, by have := HCO.out.2.2; have := HS.out.2; have := HK.out; omega, HO8.out, HCO.out.1, HC8.out, by_trans HBY.out HB8.out⟩, by simp [intOf]; omega⟩
        have q0 : (r == 0) = false := by simpa using r0
        by_cases r1 : r = 1
        · subst r1
          go_wp2_with fail
          refine (HO.out _).mono ?_
          rintro e w7 ⟨v7, rfl, hi7, hg7⟩
          have HS := SO
          generalize LO = L7 at hi7 HS
          have HI7 := Lib.hid hi7
          have HIV7 := Lib.hid (own_later HIV6.out hg7.below)
          have HC7 := Lib.hid (HC6.out.gro hg7)
          have HB7 := Lib.hid (by_trans HB6.out (gro_by hg7 _))
          have HCO := Lib.hid (comb_ord (f := opOr) rfl HOR.out HS.out.1)
          have HCC := Lib.hid (refCombine_calls 1 opOr rfl apply_or u3 v7 L L7 w7 (OwnI.at_ HIV7.out (by have := HK.out; omega)) hi7 (by have := HK.out; omega) (by have := HS.out.2; omega) (edges_valid HOR.out HS.out.1))
          clear hi7 hg7 lx x0 x1 x2 ly y0 y1 y2 HF HO HT
          go_wp2_with fail
          refine HCC.out.mono ?_
          rintro e w8 ⟨v8, rfl, hown8, hb8, _, _, _⟩
          have HO8 : Hid (OwnI (b + 1) w8 v8 (combL opOr L L7)) := ownsRow_mono hown8 (by have := HC7.out.lt; omega)
          have HC8 := Lib.hid (HC7.out.beh hb8)
          have HB8 := Lib.hid (by_trans HB7.out (by_below hb8))
          clear hown8 hb8
          have hk0 := HK0.out
          go_wp2
          generalize wrap64 ((k : Int) - 1) = z at hwk ⊢
          subst hwk
          exact ⟨⟨combL opOr L L7, k - 1, by congr 1; omega, by have := HCO.out.2.2; have := HS.out.2; have := HK.out; omega, HO8.out, HCO.out.1, HC8.out, by_trans HBY.out HB8.out⟩, by simp [intOf]; omega⟩
        · have q1 : (r == 1) = false := by simpa using r1
          go_wp2_with fail
          refine (HT.out _).mono ?_
          rintro e w7 ⟨v7, rfl, hi7, hg7⟩
          have HS := ST
          generalize LT = L7 at hi7 HS
          have HI7 := Lib.hid hi7
          have HIV7 := Lib.hid (own_later HIV6.out hg7.below)
          have HC7 := Lib.hid (HC6.out.gro hg7)
          have HB7 := Lib.hid (by_trans HB6.out (gro_by hg7 _))
          have HCO := Lib.hid (comb_ord (f := opOr) rfl HOR.out HS.out.1)
          have HCC := Lib.hid (refCombine_calls 1 opOr rfl apply_or u3 v7 L L7 w7 (OwnI.at_ HIV7.out (by have := HK.out; omega)) hi7 (by have := HK.out; omega) (by have := HS.out.2; omega) (edges_valid HOR.out HS.out.1))
          clear hi7 hg7 lx x0 x1 x2 ly y0 y1 y2 HF HO HT
          go_wp2_with fail
          refine HCC.out.mono ?_
          rintro e w8 ⟨v8, rfl, hown8, hb8, _, _, _⟩
          have HO8 : Hid (OwnI (b + 1) w8 v8 (combL opOr L L7)) := ownsRow_mono hown8 (by have := HC7.out.lt; omega)
          have HC8 := Lib.hid (HC7.out.beh hb8)
          have HB8 := Lib.hid (by_trans HB7.out (by_below hb8))
          clear hown8 hb8
          have hk0 := HK0.out
          go_wp2
          generalize wrap64 ((k : Int) - 1) = z at hwk ⊢
          subst hwk
          exact ⟨⟨combL opOr L L7, k - 1, by congr 1; omega, by have := HCO.out.2.2; have := HS.out.2; have := HK.out; omega, HO8.out, HCO.out.1, HC8.out, by_trans HBY.out HB8.out⟩, by simp [intOf]; omega⟩
    · have hd : decide ((0 : Int) < (k : Int)) = false := by simp; omega
      have HAL := Lib.hid (fun w' => refAll_calls w')
      go_wp2_with fail
      refine (bool4_calls b c _ HCS.out).mono ?_
      rintro e w2 ⟨q, rfl, hc2, hb2⟩
      have HC2 := Lib.hid hc2
      have HB2 := Lib.hid (by_trans HBY.out hb2)
      have HO2 := Lib.hid (own_off HIV.out hb2)
      clear hc2 hb2
      cases q
      · go_wp2
        go_ret
        exact ⟨_, L, rfl, HO2.out, HOR.out, by have := HK.out; omega, HC2.out, HB2.out⟩
      · go_wp2_with fail
        refine (HAL.out _).mono ?_
        rintro e w7 ⟨b7, rfl, hi7, hg7⟩
        have HIV7 := Lib.hid (own_later HO2.out hg7.below)
        have HC7 := Lib.hid (HC2.out.gro hg7)
        have HB7 := Lib.hid (by_trans HB2.out (gro_by hg7 _))
        have HAO := Lib.hid (canon_ord canon_all).1
        have HCO := Lib.hid (comb_ord (f := opNot) rfl HAO.out HOR.out)
        have HCC := Lib.hid (refCombine_calls 3 opNot rfl apply_not _ u3 allL L w7 hi7 (OwnI.at_ HIV7.out (by have := HK.out; omega)) (by decide) (by have := HK.out; omega) (edges_valid HAO.out HOR.out))
        clear hi7 hg7
        go_wp2_with fail
        refine HCC.out.mono ?_
        rintro e w8 ⟨v8, rfl, hown8, hb8, _, _, _⟩
        have HO8 : Hid (OwnI (b + 1) w8 v8 (combL opNot allL L)) := ownsRow_mono hown8 (by have := HC7.out.lt; omega)
        have HC8 := Lib.hid (HC7.out.beh hb8)
        have HB8 := Lib.hid (by_trans HB7.out (by_below hb8))
        clear hown8 hb8
        go_wp2
        go_ret
        exact ⟨_, _, rfl, HO8.out, HCO.out.1, by have := HCO.out.2.2; have : allL.length = 1 := rfl; have := HK.out; omega, HC8.out, HB8.out⟩
theorem IvO.off {b : Nat} {w w' : World} {v : Value} {l : List I} (h : IvO (b + 1) w v l) (hg : w.grownBy w' (some b)) : IvO (b + 1) w' v l :=
  ⟨OwnI.at_ (own_off h.own hg) (by obtain ⟨_, _, _, h2, _⟩ := h.at_; exact h2), own_off h.own hg⟩
theorem IvO.later {b : Nat} {w w' : World} {v : Value} {l : List I} (h : IvO b w v l) (hg : Below w.heap.size w w') : IvO b w' v l := ⟨h.at_.later hg, own_later h.own hg⟩
end Go.Proofs.Ytmjokpakekfkfaa
