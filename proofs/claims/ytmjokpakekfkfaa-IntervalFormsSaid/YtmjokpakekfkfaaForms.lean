/- The law IntervalForms returns true for all codes, every list and every value, without conditions. -/
import Derived.Test.YtmjokpakekfkfaaForms14
import Derived.Deep.RegionHeld3
set_option linter.unusedSimpArgs false
set_option linter.unusedVariables false
namespace Go.Proofs.Ytmjokpakekfkfaa
open Go.ChangeShapes Go.WideShapes Go.ChangeAt Go.RowKit

namespace LForms
set_option maxHeartbeats 4000000 in
set_option maxRecDepth 100000 in
theorem walk (a : Option Addr) (len cap : Nat) (zs : List Int) (pa : Option Addr) (ll lc : Nat) (R : List I) (v : V) (w : World) (hr : IsRow .u8 w a len cap zs)
    (h1 : ll ≤ lc) (h2 : lc ≤ maxLen) (h3 : R.length = min ll 80) (h4 : IvAt w (.slice pa R.length lc) R) (hv : isNum v.n) :
    Calls Try.prog 3 #[.slice a len cap, .slice pa ll lc, v.val] w fun e w' => e = .returned (.bool true) ∧ Below w.heap.size w w' := by
  have mx := mixed
  have hne := neq_V
  obtain ⟨vk, vn, vt⟩ := v
  obtain ⟨gv, hgv⟩ : ∃ gv, w.heap.size = gv := ⟨_, rfl⟩
  have HGV := Lib.hid hgv
  have hb0 : Below w.heap.size w (w.alloc (vObj ⟨vk, vn, vt⟩ 25)) := (Below.refl _ _).alloc (Nat.le_refl _) _
  have HN := Lib.hid (new_calls a len cap zs _ (hr.later hb0))
  have H4 := Lib.hid (h4.later hb0)
  obtain ⟨M, hM⟩ : ∃ M, R.length = M := ⟨_, rfl⟩
  rw [hM] at H4
  have hmin : min (ll : Int) 80 = (M : Int) := by omega
  have hif : (if (80 : Int) < (ll : Int) then (80 : Int) else (ll : Int)) = (M : Int) := by split <;> omega
  have hif2 : (if (ll : Int) < (80 : Int) then (ll : Int) else (80 : Int)) = (M : Int) := by split <;> omega
  have hMl : M ≤ ll := by omega
  have hMc : M ≤ lc := by omega
  have hcm : (lc : Int) ≤ 9223372036854775807 := by unfold maxLen at h2; omega
  clear hr h3 h4 hv h2 hb0 hgv hM
  go_enter Try.func3, Try.ntmps3
  go_wp2_with fail
  refine HN.out.mono ?_
  rintro e w1 ⟨cb, c, rfl, hbs, hcs, hb1⟩
  have hbv : Box w1 w.heap.size ⟨vk, vn, vt⟩ := (Box.new w ⟨vk, vn, vt⟩ 25).later hb1
  have hne2 : w.heap.size ≠ cb := by simp at hbs; omega
  have hcb : w.heap.size ≤ cb := by simp at hbs; omega
  have hb2 : Below w.heap.size w w1 := ((Below.refl _ _).alloc (Nat.le_refl _) _).trans (hb1.mono (by simp))
  have HR1 : Hid (IvX cb w1 (.slice pa M lc) R) := (IvX.of_old H4.out (by simpa using hbs)).later hb1
  rw [HGV.out] at hbv hne2 ⊢
  have HCB := Lib.hid hcb
  have HBV := Lib.hid hbv
  have HNE := Lib.hid hne2
  have HB2 := Lib.hid hb2
  have HC := Lib.hid hcs
  clear HN hbs hb1 hbv hb2 hcb H4 hcs hne2
  go_wp2_with fail
  refine (caseInterval_calls cb c _ HC.out).mono ?_
  rintro e w2 ⟨va, A, rfl, hoa, hra, hla, hc2, hb2⟩
  have HA : Hid (IvX cb w2 va A) := .of_own hoa (by omega)
  have HC2 := Lib.hid hc2
  have HR2 := Lib.hid (HR1.out.off hb2)
  have HV2 := Lib.hid (HBV.out.kept hb2 HNE.out)
  have HB3 := Lib.hid (HB2.out.grown hb2 HB2.out.size (fun k hk => by cases hk; exact HCB.out))
  obtain ⟨qa, ka, rfl⟩ := ownsRow_slice hoa
  clear hoa hra hla hc2 hb2 HR1 HBV HB2 HC
  go_wp2_with fail
  refine (spoilt_calls cb c _ HC2.out).mono ?_
  rintro e w3 ⟨vb, B, rfl, hob, hlb, hc3, hb3⟩
  have HBx : Hid (IvX cb w3 vb B) := .of_own hob.own (by omega)
  have HC3 := Lib.hid hc3
  have HR3 := Lib.hid (HR2.out.off hb3)
  have HA3 := Lib.hid (HA.out.off hb3)
  have HV3 := Lib.hid (HV2.out.kept hb3 HNE.out)
  have HB4 := Lib.hid (HB3.out.grown hb3 HB3.out.size (fun k hk => by cases hk; exact HCB.out))
  obtain ⟨qb, kb, rfl⟩ := ownsRow_slice hob.own
  generalize A.length = na at HA3 ⊢
  generalize B.length = nb at HBx ⊢
  clear hob hlb hc3 hb3 HR2 HV2 HB3 HC2 HA hmin hif hif2
  go_wp2_with fail
  obtain ⟨W, hW⟩ : ∃ W, W = w3.alloc (.cells #[.slice qa na ka, .slice qb nb kb, .slice pa M lc] 23) := ⟨_, rfl⟩
  rw [← hW]
  have hgW : Gro w3 W := by rw [hW]; exact (Gro.refl _).alloc _
  have hls : ∃ ls : List (Value × List I), ls.length = 3 ∧ (∀ i (h : i < ls.length), W.cell? ⟨w3.heap.size, i, none⟩ = some ls[i].1) ∧ ∀ x ∈ ls, IvX cb W x.1 x.2 := by
    refine ⟨[(.slice qa na ka, A), (.slice qb nb kb, B), (.slice pa M lc, R)], rfl, fun i hi => ?_, fun x hx => ?_⟩
    · obtain rfl | rfl | rfl : i = 0 ∨ i = 1 ∨ i = 2 := by simp at hi; omega
      all_goals (rw [hW]; go_simp; try rfl)
    · simp at hx
      rcases hx with rfl | rfl | rfl
      · exact HA3.out.later hgW.below
      · exact HBx.out.later hgW.below
      · exact HR3.out.later hgW.below
  obtain ⟨ls, hl3, hcell, hiv⟩ := hls
  have HL3 := Lib.hid hl3
  have HCELL := Lib.hid hcell
  have HIV := Lib.hid hiv
  have HCW := Lib.hid (HC3.out.below hgW)
  have HVW := Lib.hid (HV3.out.later hgW.below)
  have HBW := Lib.hid (HB4.out.trans (hgW.below.mono HB4.out.size))
  have hgl : w3.heap.size < W.heap.size := by rw [hW]; simp
  have hglc : w3.heap.size ≠ cb := by have := HC3.out.lt; omega
  generalize w3.heap.size = gl at HCELL hgl hglc ⊢
  have HGL := Lib.hid (And.intro hgl hglc)
  clear hl3 hcell hiv hgl hglc hW hgW HC3 HV3 HB4 HA3 HBx HR3
  go_wp2_with fail
  go_loopw [30] (fun i wr => ∃ k : Nat, k ≤ 3 ∧ i = .int .i64 k ∧ CaseAt wr cb c ∧ Box wr gv ⟨vk, vn, vt⟩ ∧ gl < wr.heap.size ∧ (∀ i (h : i < ls.length), wr.cell? ⟨gl, i, none⟩ = some ls[i].1) ∧ (∀ x ∈ ls, IvX cb wr x.1 x.2) ∧ Below w.heap.size w wr) (fun i _ => 3 - (intOf i).toNat)
  case atStart => exact ⟨0, by omega, rfl, HCW.out, HVW.out, HGL.out.1, HCELL.out, HIV.out, HBW.out⟩
  case round =>
    obtain ⟨k, hk, rfl, hcs, hbx, hgl, hcell, hiv, hb⟩ := hrel
    have HC := Lib.hid hcs
    have HX := Lib.hid hbx
    have HG1 := Lib.hid hgl
    have HCE := Lib.hid hcell
    have HI := Lib.hid hiv
    have HB := Lib.hid hb
    clear hcs hbx hcell hiv hb HCW HVW HCELL HIV HBW
    by_cases hlt : k < 3
    · have hkl : k < ls.length := by rw [HL3.out]; exact hlt
      have e0 := HCE.out k hkl
      have hx := HI.out _ (List.getElem_mem hkl)
      generalize ls[k] = P at e0 hx
      obtain ⟨sv, L⟩ := P
      simp only at e0 hx
      obtain ⟨sa, sc, rfl, hsl, _⟩ := id hx
      have HL := Lib.hid hx
      have hlt' : decide ((k : Int) < 3) = true := by simp; omega
      have HKK := Lib.hid hlt
      obtain ⟨wo, rfl⟩ : ∃ wo : World, wo = wr := ⟨_, rfl⟩
      generalize hLn : L.length = n at HL hsl e0
      have HLN := Lib.hid hLn
      have HVA := Lib.hid (fun w' h => ivalid_calls (.slice sa n sc) L w' h)
      have HVR := Lib.hid (fun w' h => refIvalid_calls (.slice sa n sc) L w' h)
      have HLE := Lib.hid (fun w' h => ileast_calls (.slice sa n sc) L w' h)
      have HLR := Lib.hid (fun w' h => refIleast_calls (.slice sa n sc) L w' h)
      have HHA := Lib.hid (fun y w' h => ihas_calls (.slice sa n sc) L y w' h)
      have HHR := Lib.hid (fun y w' h => refIhas_calls (.slice sa n sc) L y w' h)
      obtain ⟨q, hq⟩ : ∃ q, canonB L = q := ⟨_, rfl⟩
      rw [hq] at HVA HVR
      obtain ⟨lb, hlb⟩ : ∃ q, leastB L = q := ⟨_, rfl⟩
      obtain ⟨lv, hlv⟩ : ∃ q, leastV L = q := ⟨_, rfl⟩
      rw [hlb, hlv] at HLE HLR
      obtain ⟨xk, xn, xt⟩ := lv
      clear hx hq hlb hlv hLn hk
      go_wp2_with fail
      refine (HVA.out wo HL.out.at_).mono ?_
      rintro e w2 ⟨rfl, hg2⟩
      have HG2 := Lib.hid hg2.below
      clear hg2
      go_wp2_with fail
      refine (HVR.out w2 (HL.out.later HG2.out).at_).mono ?_
      rintro e w3 ⟨rfl, hg3⟩
      have HG3 := Lib.hid (HG2.out.trans (hg3.below.mono HG2.out.size))
      clear hg3 HG2 HVA HVR hlt hlt' e0 hgl
      have hqq : (!q == q) = false := by cases q <;> rfl
      go_wp2_with fail
      refine (HLE.out w3 (HL.out.later HG3.out).at_).mono ?_
      rintro e w4 ⟨rfl, hg4⟩
      have HG4 := Lib.hid (HG3.out.trans (hg4.below.mono HG3.out.size))
      clear hg4 HG3 HLE hqq
      go_wp2_with fail
      obtain ⟨W5, hW5⟩ : ∃ W5, W5 = w4.alloc (.cells #[.int .i64 xk, .int .i64 xn, .string xt] 25) := ⟨_, rfl⟩
      rw [← hW5]
      have hx5 : Box W5 w4.heap.size ⟨xk, xn, xt⟩ := by rw [hW5]; exact Box.new w4 ⟨xk, xn, xt⟩ _
      have hg5 : Gro w4 W5 := by rw [hW5]; exact (Gro.refl _).alloc _
      have hxc : w4.heap.size ≠ cb := by have := HC.out.lt; have := HG4.out.size; omega
      generalize w4.heap.size = gx at hx5 hxc ⊢
      have HXC := Lib.hid hxc
      have HX5 := Lib.hid hx5
      have HG5 := Lib.hid (HG4.out.trans (hg5.below.mono HG4.out.size))
      clear hW5 hx5 hg5 hxc HG4
      refine (HLR.out W5 (HL.out.later HG5.out).at_).mono ?_
      rintro e w6 ⟨rfl, hg6⟩
      have HX6 := Lib.hid (HX5.out.later hg6.below)
      have HG6 := Lib.hid (HG5.out.trans (hg6.below.mono HG5.out.size))
      clear hg6 HX5 HG5 HLR
      obtain ⟨lx, x0, x1, x2⟩ := HX6.out.cells
      have hd : decide ((⟨xk, xn, xt⟩ : V) = ⟨xk, xn, xt⟩) = true := by simp
      have hqq : (!lb == lb) = false := by cases lb <;> rfl
      go_wp2_with fail
      obtain ⟨W7, hW7⟩ : ∃ W7, W7 = w6.alloc (.cells #[.int .i64 xk, .int .i64 xn, .string xt] 25) := ⟨_, rfl⟩
      rw [← hW7]
      have hg7 : Gro w6 W7 := by rw [hW7]; exact (Gro.refl _).alloc _
      have HG7 := Lib.hid (HG6.out.trans (hg7.below.mono HG6.out.size))
      have HX7 := Lib.hid (HX6.out.later hg7.below)
      have HC7 : Hid (CaseAt W7 cb c) := CaseAt.beh HC.out HG7.out
      have HV7 := Lib.hid (HX.out.later HG7.out)
      have hcs := HC7.out
      obtain ⟨lx, x0, x1, x2⟩ := HX7.out.cells
      obtain ⟨lv, v0, v1, v2⟩ := HV7.out.cells
      have hlc := hcs.lt
      have hvc := HNE.out
      have hxc := HXC.out
      clear hW7 hg7 hd hqq
      go_region_held3 (fun w' => w'.cell? ⟨gv, 0, none⟩ = some (.int .i64 vk) ∧ w'.cell? ⟨gv, 1, none⟩ = some (.int .i64 vn) ∧ w'.cell? ⟨gv, 2, none⟩ = some (.string vt) ∧ w'.cell? ⟨gx, 0, none⟩ = some (.int .i64 xk) ∧ w'.cell? ⟨gx, 1, none⟩ = some (.int .i64 xn) ∧ w'.cell? ⟨gx, 2, none⟩ = some (.string xt)) (go_keep)
        (first | (go_at_call 13; refine (any_calls cb c _ (by first | exact hcs | exact hcs.grown (drew_by _))).mono ?_; rintro e w8 ⟨⟨yk, yn, yt⟩, rfl, hval2, hnum2, hcs2, hby2⟩; have d0 : w8.cell? ⟨gv, 0, none⟩ = some (.int .i64 vk) := hby2.cell (by go_simp) (by simp; omega); have d1 : w8.cell? ⟨gv, 1, none⟩ = some (.int .i64 vn) := hby2.cell (by go_simp) (by simp; omega); have d2 : w8.cell? ⟨gv, 2, none⟩ = some (.string vt) := hby2.cell (by go_simp) (by simp; omega); have q0 : w8.cell? ⟨gx, 0, none⟩ = some (.int .i64 xk) := hby2.cell (by go_simp) (by simp; omega); have q1 : w8.cell? ⟨gx, 1, none⟩ = some (.int .i64 xn) := hby2.cell (by go_simp) (by simp; omega); have q2 : w8.cell? ⟨gx, 2, none⟩ = some (.string xt) := hby2.cell (by go_simp) (by simp; omega); have lv2 : gv < w8.heap.size := Nat.lt_of_lt_of_le lv (Nat.le_trans (by simp) hby2.size); have lx2 : gx < w8.heap.size := Nat.lt_of_lt_of_le lx (Nat.le_trans (by simp) hby2.size)))
      go_wp2_with fail
      obtain ⟨W, hW⟩ : ∃ W, W = w8.alloc (.cells #[.int .i64 vk, .int .i64 vn, .string vt, .int .i64 yk, .int .i64 yn, .string yt, .int .i64 xk, .int .i64 xn, .string xt] 25) := ⟨_, rfl⟩
      rw [← hW]
      have hgW : Gro w8 W := by rw [hW]; exact (Gro.refl _).alloc _
      have hq : ∃ qs : List V, qs.length = 3 ∧ RowIn W w8.heap.size 0 qs := by
        refine ⟨[⟨vk, vn, vt⟩, ⟨yk, yn, yt⟩, ⟨xk, xn, xt⟩], rfl, by rw [hW]; simp, fun i hi => ?_⟩
        obtain rfl | rfl | rfl : i = 0 ∨ i = 1 ∨ i = 2 := by simp at hi; omega
        all_goals (rw [hW]; exact ⟨by go_simp; try rfl, by go_simp; try rfl, by go_simp; try rfl⟩)
      have hby8 := by_trans (by_some (drew_by W7) (some cb)) hby2
      have HBW : Hid (Below w.heap.size w W) := by
        have h1 : Below w.heap.size w w8 := (HB.out.trans (HG7.out.mono HB.out.size)).grown hby8 (Nat.le_trans HB.out.size HG7.out.size) (fun k hk => by cases hk; exact HCB.out)
        exact h1.trans (hgW.below.mono h1.size)
      have HCW := Lib.hid (hcs2.below hgW)
      have HVW := Lib.hid ((HV7.out.kept hby8 HNE.out).later hgW.below)
      have HGLW : Hid (gl < W.heap.size) := Nat.lt_of_lt_of_le HG1.out (Nat.le_trans HG7.out.size (Nat.le_trans hby8.size hgW.size))
      have HCEW : Hid (∀ i (h : i < ls.length), W.cell? ⟨gl, i, none⟩ = some ls[i].1) := fun i h =>
        (hgW.below.cell (p := ⟨gl, i, none⟩) (by have := HG1.out; have := HG7.out.size; have := hby8.size; show gl < _; omega)).trans (hby8.cell ((HG7.out.cell (p := ⟨gl, i, none⟩) HG1.out).trans (HCE.out i h)) (by simp; exact HGL.out.2))
      have HIW : Hid (∀ x ∈ ls, IvX cb W x.1 x.2) := fun x h => (((HI.out x h).later HG7.out).off hby8).later hgW.below
      have HLW : Hid (IvX cb W (.slice sa n sc) L) := ((HL.out.later HG7.out).off hby8).later hgW.below
      generalize w8.heap.size = gq at hq ⊢
      obtain ⟨qs, hql, hqr⟩ := hq
      have HQL := Lib.hid hql
      have HQR := Lib.hid hqr
      clear hql hqr hgW hW hby8 hby2 hcs2 hval2 hnum2 d0 d1 d2 q0 q1 q2 lv2 lx2 hcs hlc hvc hxc lv v0 v1 v2 lx x0 x1 x2 HX6 HX7 HC7 HV7 HG6 HG7 HL HI HCE HG1 HX HB HC HXC
      go_wp2_with fail
      go_loopw [63] (fun i wr => ∃ j : Nat, j ≤ 3 ∧ i = .int .i64 j ∧ Below W.heap.size W wr) (fun i _ => 3 - (intOf i).toNat)
      case atStart => exact ⟨0, by omega, rfl, Below.refl _ _⟩
      case round =>
        obtain ⟨j, hj, rfl, hb⟩ := hrel
        have HB := Lib.hid hb
        by_cases hlt : j < 3
        · have hjl : j < qs.length := by rw [HQL.out]; exact hlt
          obtain ⟨e0, e1, e2⟩ := (HQR.out.later hb).at_ j hjl
          have hgl := (HQR.out.later hb).blk
          rw [Nat.zero_add] at e0 e1 e2
          generalize qs[j] = Q at e0 e1 e2
          obtain ⟨qk, qn, qT⟩ := Q
          simp only at e0 e1 e2
          have hlt' : decide ((j : Int) < 3) = true := by simp; omega
          have HJJ := Lib.hid hlt
          obtain ⟨wi, rfl⟩ : ∃ wi : World, wi = wr := ⟨_, rfl⟩
          have hh1 := fun w' h => HHA.out ⟨qk, qn, qT⟩ w' h
          have hh2 := fun w' h => HHR.out ⟨qk, qn, qT⟩ w' h
          generalize hasB L ⟨qk, qn, qT⟩ = hb0 at hh1 hh2
          have HH1 := Lib.hid hh1
          have HH2 := Lib.hid hh2
          have hqq : (!hb0 == hb0) = false := by cases hb0 <;> rfl
          clear hh1 hh2 hb hj
          go_wp2_with fail
          obtain ⟨Wn, hWn⟩ : ∃ Wn, Wn = wi.alloc (.cells #[.int .i64 qk, .int .i64 qn, .string qT] 25) := ⟨_, rfl⟩
          rw [← hWn]
          have hQn : Box Wn wi.heap.size ⟨qk, qn, qT⟩ := by rw [hWn]; exact Box.new wi ⟨qk, qn, qT⟩ _
          have hgn : Gro wi Wn := by rw [hWn]; exact (Gro.refl _).alloc _
          generalize wi.heap.size = gn at hQn ⊢
          have HGN := Lib.hid hgn
          obtain ⟨lq, p0, p1, p2⟩ := hQn.cells
          have HLN2 : Hid (∀ m os, IvAt (Sort.grow (Wn.drewN m) os) (.slice sa n sc) L) := fun m os =>
            IvX.at_ (cb := cb) (((HLW.out.later HB.out).later hgn.below).later ((Gro.refl Wn).grown m os).below)
          clear hWn hgn hQn e0 e1 e2 hgl hlt hlt'
          refine wp_region_quiet_grown mx (by kernel_rfl) ?_
          repeat (go_big_quiet_step ((first | (go_at_call 14; refine gro_calls (HH1.out _ (HLN2.out _ _))) | (go_at_call 15; refine gro_calls (HH2.out _ (HLN2.out _ _))) | fail)))
          refine wpQuiet_nil ?_
          intro w9 hw9
          obtain ⟨⟨nq, osq⟩, hw10⟩ := hw9
          have HG9 : Hid (Gro wi w9) := by rw [hw10]; exact HGN.out.trans ((Gro.refl Wn).grown nq osq)
          clear hw10 lq p0 p1 p2 HLN2 HH1 HH2
          have hwk := step_int j (by have := HJJ.out; omega)
          go_wp2
          generalize wrap64 ((j : Int) + 1) = z at hwk ⊢
          subst hwk
          have hjj := HJJ.out
          exact ⟨⟨j + 1, by omega, by go_num, HB.out.trans (HG9.out.below.mono HB.out.size)⟩, by simp [intOf]; omega⟩
        · have hlt' : decide ((j : Int) < 3) = false := by simp; omega
          have hkk := HKK.out
          have hwk := step_int k (by have := HKK.out; omega)
          clear hb hlt hj
          go_wp2
          generalize wrap64 ((k : Int) + 1) = z at hwk ⊢
          subst hwk
          exact ⟨⟨k + 1, by omega, by go_num, CaseAt.beh HCW.out HB.out, HVW.out.later HB.out, Nat.lt_of_lt_of_le HGLW.out HB.out.size, fun i h => (HB.out.cell (p := ⟨gl, i, none⟩) HGLW.out).trans (HCEW.out i h), fun x h => (HIW.out x h).later HB.out, HBW.out.trans (HB.out.mono HBW.out.size)⟩, by simp [intOf]; omega⟩
    · have hlt' : decide ((k : Int) < 3) = false := by simp; omega
      clear hlt hk hgl
      go_wp2_with fail
      refine (ibegun_calls _).mono ?_
      rintro e w7 ⟨rfl, hb7⟩
      have HB7 := Lib.hid (HB.out.trans (hb7.mono HB.out.size))
      clear hb7
      go_wp2
      go_ret
      exact ⟨rfl, HB7.out⟩
set_option maxRecDepth 100000 in
theorem lifted (os : Os) (started : os.Started) (H : Type) (enc : TypeId × Value → H) :
    ReturnsInHanded {} Try.checked os 3 .any (Rows.intervalFormsSpec.pre6 enc Try.prog Try.f3 Rows.intervalFormsRow.domain false) (Rows.intervalFormsSpec.post enc Try.prog Try.f3 false true false false) := by
  refine returnsInHanded_of_change (C := Try.checked) own started (by kernel_rfl) Try.func3
    (ChangeSpec.witness6 (enc := enc) (C := Try.checked) false ⟨#[], #[.slice none 0 0, .slice none 0 0, .agg #[.int .i64 0, .int .i64 0, .string ByteArray.empty]], []⟩ 8 (by kernel_rfl) (by kernel_rfl) (by kernel_rfl) (by kernel_rfl)) ?_
  intro W base args ds gs before hval0 hW hcnd hsizes
  have hval : ∀ (j : Nat) t v, Try.f3.params[j]? = some t → args[j]? = some v → Value.okWide Try.prog W .any base t v := hval0
  have hW' := hW
  obtain ⟨p, q, hA0, hV, rfl, hfz, hnd⟩ := hW
  have hA : DataW.TrodAll enc Try.prog W 0 (fun _ => true) true Try.f3.params.toList args.toList ds p := hA0
  rw [Try.params3] at hA hval
  obtain ⟨v0, vs0, d0, ds0, p0, q0, hargs, rfl, rfl, h0, r0⟩ := trodAll_cons hA
  obtain ⟨v1, vs1, d1, ds1, p1, q1, rfl, rfl, rfl, h1, r1⟩ := trodAll_cons r0
  obtain ⟨v2, vs2, d2, ds2, p2, q2, rfl, rfl, rfl, h2, r2⟩ := trodAll_cons r1
  obtain ⟨rfl, rfl, rfl⟩ := trodAll_nil r2
  obtain rfl : args = #[v0, v1, v2] := by cases args; simp_all
  obtain ⟨rfl, rfl⟩ := trodVars_none hV
  have lt0 : ∀ x ∈ p0, x.block < W.heap.size := by obtain ⟨m, hm⟩ := h0; exact DataW.trod_lt m _ _ _ hm
  obtain ⟨a0, len0, cap0, z0, rfl, w0⟩ := open_codes (hval 0 22 v0 rfl rfl) h0
  have lt1 : ∀ x ∈ p1, x.block < W.heap.size := by obtain ⟨m, hm⟩ := h1; exact DataW.trod_lt m _ _ _ hm
  obtain ⟨pa1, ll1, lc1, A1, rfl, q11, q21, q31, q41⟩ := open_Ivs80 (hval 1 23 v1 rfl rfl) h1
  have lt2 : ∀ x ∈ p2, x.block < W.heap.size := by obtain ⟨m, hm⟩ := h2; exact DataW.trod_lt m _ _ _ hm
  obtain ⟨x2, rfl, b2⟩ := open_Vn (hval 2 25 v2 rfl rfl) h2
  clear hA0 hval0
  refine (walk a0 len0 cap0 z0 pa1 ll1 lc1 A1 x2 W w0 q11 q21 q31 q41 b2).mono fun e W' ⟨he, bel⟩ => ?_
  subst he
  exact ⟨_, rfl, _, _, _, [], _, [], hW', trodAll_mk1 (shut_bool Try.underlying4 _), (trodAll_cons_mk (Below.trod laidOut (by kernel_rfl) (of_decide_eq_true (by kernel_rfl)) h0 bel lt0) (trodAll_cons_mk (Below.trod laidOut (by kernel_rfl) (of_decide_eq_true (by kernel_rfl)) h1 bel lt1) (trodAll_cons_mk (Below.trod laidOut (by kernel_rfl) (of_decide_eq_true (by kernel_rfl)) h2 bel lt2) trodAll_mk0))), rfl, bel.frame _, fun h => by cases h⟩

theorem over : Rows.intervalFormsRow.holds Try.pinned (OpenSpec.ofChange Rows.intervalFormsSpec) :=
  OpenClaim.holds_of_wide 3 Try.f3 rfl rfl rfl rfl rfl rfl rfl ⟨rfl, rfl, rfl, rfl, rfl⟩ rfl rfl rfl rfl rfl (by kernel_rfl) Try.func3 (by kernel_rfl)
    (of_decide_eq_true (by kernel_rfl)) (by unfold Func.isWrapper; first | (rw [if_pos (by decide +kernel)]; kernel_rfl) | (rw [if_neg (by decide +kernel)]; exact ⟨rfl, rfl⟩))
    (fun os started H enc _ => lifted os started H enc)
theorem proved : Rows.IntervalFormsSaid := over
end LForms
end Go.Proofs.Ytmjokpakekfkfaa
