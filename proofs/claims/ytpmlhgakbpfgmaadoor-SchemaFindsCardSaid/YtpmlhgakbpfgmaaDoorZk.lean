/- The contracts of schema.validColumns, validReference, validReferences. -/
import Derived.Test.YtpmlhgakbpfgmaaDoorZj
import Derived.Test.YtpmlhgakbpfgmaaDoorPv
set_option linter.unusedSimpArgs false
set_option linter.unusedVariables false
namespace Go.Proofs.YtpmlhgakbpfgmaaDoor
open Go.RowKit

noncomputable def validColsT (t : Tab) : Bool := decide (1 ≤ t.key) && decide (t.key ≤ t.cols.length) && namesB [] (t.cols.map Col.n) && !(t.cols.any fun c => !kindB c.k)
set_option maxHeartbeats 2000000 in
set_option maxRecDepth 100000 in
theorem validColumns_calls (S : Nat → Prop) (t : Tab) (ca : Option Addr) (cc : Nat) (ra : Option Addr) (rn rc : Nat) (ka : Option Addr) (kn kc : Nat) (w : World) (hc : ColsAt S w (.slice ca t.cols.length cc) t.cols) :
    Calls Tryd.prog 51 #[.agg #[.string t.name, .slice ca t.cols.length cc, .int .i64 t.key, .slice ra rn rc, .slice ka kn kc]] w (BoolG (validColsT t) w) := by
  obtain ⟨W, hW⟩ : ∃ W, W = w.alloc (tObj t.name ca t.cols.length cc t.key ra rn rc ka kn kc) := ⟨_, rfl⟩
  have hg : Gro w W := by rw [hW]; exact (Gro.refl w).alloc _
  have HBX : Hid (TBox W w.heap.size t.name ca t.cols.length cc t.key ra rn rc ka kn kc) := by rw [hW]; exact TBox.new _ _ _ _ _ _ _ _ _ _ _ _
  have HN := Lib.hid (fun w' (h : Gro W w') => validNamesC_calls S _ t.cols w' (hc.later (hg.trans h).below))
  have HK := Lib.hid (fun w' (h : Gro W w') => containsColumn S _ t.cols (fun c => !kindB c.k) w' (hc.later (hg.trans h).below) (fun x w'' _ _ => holdsNothing_calls x.n x.k w''))
  obtain ⟨res, hres⟩ : ∃ res, validColsT t = res := ⟨_, rfl⟩
  rw [hres]
  have HR := Lib.hid hres
  unfold validColsT at HR
  have HG := Lib.hid hg
  have HW := Lib.hid hW
  obtain ⟨key, hkey⟩ : ∃ key, t.key = key := ⟨_, rfl⟩
  obtain ⟨N, hN⟩ : ∃ N, t.cols.length = N := ⟨_, rfl⟩
  obtain ⟨qn, hqn⟩ : ∃ q, namesB [] (t.cols.map Col.n) = q := ⟨_, rfl⟩
  obtain ⟨qk, hqk⟩ : ∃ q, (t.cols.any fun c => !kindB c.k) = q := ⟨_, rfl⟩
  rw [hqk] at HK HR
  rw [hqn] at HN HR
  rw [hkey] at HBX HR HW ⊢
  rw [hN] at HBX HR HN HK HW ⊢
  clear hres hg hW hkey hN hqn hqk hc
  by_cases h1 : 1 ≤ key
  · have d1 : decide (1 ≤ key) = true := by simpa using h1
    by_cases h2 : key ≤ (N : Int)
    · have d2 : decide (key ≤ (N : Int)) = true := by simpa using h2
      go_enter Tryd.func51, Tryd.ntmps51
      go_upto_region 1 with fail
      rw [← HW.out]
      obtain ⟨bl, b0, b1, b2, b3, b4⟩ := HBX.out
      cases qn with
      | false =>
        have HE : Hid (false = res) := by show _ = _; rw [← HR.out, Bool.and_false, Bool.false_and]
        go_wp2_with fail
        refine (HN.out _ (Gro.refl _)).mono ?_
        rintro e w2 ⟨rfl, hg2⟩
        have HG2 := Lib.hid (HG.out.trans hg2)
        clear hg2
        go_wp2
        go_ret
        exact boolg HE.out HG2.out
      | true =>
        have HE : Hid ((!qk) = res) := by show _ = _; rw [← HR.out, d1, d2]; rfl
        go_wp2_with fail
        refine (HN.out _ (Gro.refl _)).mono ?_
        rintro e w2 ⟨rfl, hg2⟩
        have HG2 := Lib.hid hg2
        clear bl b0 b1 b2 b3 b4
        obtain ⟨bl, b0, b1, b2, b3, b4⟩ := HBX.out.later hg2.below
        clear hg2
        go_wp2_with fail
        refine (HK.out _ HG2.out).mono ?_
        rintro e w3 ⟨rfl, hg3⟩
        have HG3 := Lib.hid (HG.out.trans (HG2.out.trans hg3))
        clear hg3
        go_wp2
        go_ret
        exact boolg HE.out HG3.out
    · have d2 : decide (key ≤ (N : Int)) = false := by simpa using h2
      have HE : Hid (false = res) := by show _ = _; rw [← HR.out, d2, Bool.and_false, Bool.false_and, Bool.false_and]
      go_enter Tryd.func51, Tryd.ntmps51
      go_upto_region 1 with fail
      rw [← HW.out]
      obtain ⟨bl, b0, b1, b2, b3, b4⟩ := HBX.out
      go_wp2
      go_ret
      exact boolg HE.out HG.out
  · have d1 : decide (1 ≤ key) = false := by simpa using h1
    have HE : Hid (false = res) := by show _ = _; rw [← HR.out, d1, Bool.false_and, Bool.false_and, Bool.false_and]
    go_enter Tryd.func51, Tryd.ntmps51
    go_upto_region 1 with fail
    rw [← HW.out]
    obtain ⟨bl, b0, b1, b2, b3, b4⟩ := HBX.out
    go_wp2
    go_ret
    exact boolg HE.out HG.out
/-- Whether the i-th column of a reference is as it has to be. -/
def refAt (kinds wanted : List Int) (r : Rfc) (i : Nat) : Bool := hasN kinds (r.cols.getD i 0) && decide (atI kinds (r.cols.getD i 0) = wanted.getD i 0)
def refB (ts : List Tab) (kinds : List Int) (r : Rfc) : Bool := inTabs ts r.t && decide (r.cols.length = (keyKindsS ts r.t).length) && (List.range r.cols.length).all (refAt kinds (keyKindsS ts r.t) r)
def RefTo (kinds wanted : List Int) (r : Rfc) (j : Nat) : Prop := (List.range j).all (refAt kinds wanted r) = true
theorem RefTo.next {kinds wanted : List Int} {r : Rfc} {j : Nat} (h : RefTo kinds wanted r j) (hc : refAt kinds wanted r j = true) : RefTo kinds wanted r (j + 1) := by
  unfold RefTo at h ⊢
  rw [List.range_succ, List.all_append, h]
  simp [hc]
/-- The two cells of a reference's box. -/
structure RfBox (w : World) (g : Nat) (a : Option Addr) (n cap : Nat) (t : Int) : Prop where
  l : g < w.heap.size
  c0 : w.cell? ⟨g, 0, none⟩ = some (.slice a n cap)
  c1 : w.cell? ⟨g, 1, none⟩ = some (.int .i64 t)
theorem RfBox.later {w w' : World} {g : Nat} {a : Option Addr} {n cap : Nat} {t : Int} (h : RfBox w g a n cap t) (hw : Below w.heap.size w w') : RfBox w' g a n cap t :=
  have hc : ∀ o, w'.cell? ⟨g, o, none⟩ = w.cell? ⟨g, o, none⟩ := fun o => hw.cell (p := ⟨g, o, none⟩) h.l
  ⟨Nat.lt_of_lt_of_le h.l hw.size, (hc _).trans h.c0, (hc _).trans h.c1⟩
set_option maxHeartbeats 8000000 in
set_option maxRecDepth 100000 in
theorem validReference_calls (full : Bool) (k : Nat) (T S Sk Si : Nat → Prop) (ver : Int) (v : Value) (ts : List Tab) (vk : Value) (kinds : List Int) (r : Rfc) (ia : Option Addr) (ic : Nat) (w : World) (hp : TabsAt full k T S w v ts) (hk : IntsAt Sk w vk kinds) (hr : IntsAt Si w (.slice ia r.cols.length ic) r.cols) :
    Calls Tryd.prog 69 #[.agg #[.int .i64 ver, v], vk, .agg #[.slice ia r.cols.length ic, .int .i64 r.t]] w (BoolG (refB ts kinds r) w) := by
  have mx := mixed
  obtain ⟨a, cap, rfl, hl⟩ := hp.slice
  obtain ⟨va, vc, rfl, hvl⟩ := hk.slice
  obtain ⟨W, hW⟩ : ∃ W, W = (w.alloc (.cells #[.int .i64 ver, .slice a ts.length cap] 25)).alloc (.cells #[.slice ia r.cols.length ic, .int .i64 r.t] 54) := ⟨_, rfl⟩
  have hg : Gro w W := by rw [hW]; exact ((Gro.refl w).alloc _).alloc _
  have HSB : Hid (SBox W w.heap.size ver a ts.length cap) := by rw [hW]; exact (SBox.new _ _ _ _ _ _).later ((Below.refl _ _).alloc (Nat.le_refl _) _)
  have HRB : Hid (RfBox W (w.heap.size + 1) ia r.cols.length ic r.t) := by rw [hW]; exact ⟨by simp, by go_simp, by go_simp⟩
  have HF := Lib.hid (find_calls full k T S ver (.slice a ts.length cap) ts r.t W (hp.later hg.below))
  have HKK := Lib.hid (fun w' (h : Gro W w') => sKeyKinds_new full k T S ver (.slice a ts.length cap) ts r.t w' (hp.later (hg.trans h).below))
  have HKI := Lib.hid (hk.later hg.below)
  have HRI := Lib.hid (hr.later hg.below)
  have HG := Lib.hid hg
  have HW := Lib.hid hW
  obtain ⟨res, hres⟩ : ∃ res, refB ts kinds r = res := ⟨_, rfl⟩
  rw [hres]
  have HR := Lib.hid hres
  unfold refB at HR
  obtain ⟨WL, hWL⟩ : ∃ l, keyKindsS ts r.t = l := ⟨_, rfl⟩
  rw [hWL] at HR HKK
  obtain ⟨C, hC⟩ : ∃ C, r.cols.length = C := ⟨_, rfl⟩
  obtain ⟨L, hL⟩ : ∃ L, ts.length = L := ⟨_, rfl⟩
  obtain ⟨M, hM⟩ : ∃ M, kinds.length = M := ⟨_, rfl⟩
  obtain ⟨rt, hrt⟩ : ∃ rt, r.t = rt := ⟨_, rfl⟩
  rw [hC] at HRB HRI HR HW ⊢
  rw [hL] at HSB HF HKK HW hl ⊢
  rw [hM] at HKI hvl ⊢
  rw [hrt] at HF HKK HR HRB HW ⊢
  have HC := Lib.hid hC
  have HM := Lib.hid hM
  clear hres hg hW hWL hC hL hM hp hk hr hrt
  go_enter Tryd.func69, Tryd.ntmps69
  go_upto_region 1 with fail
  rw [← HW.out]
  obtain ⟨sl, s0, s1⟩ := HSB.out
  obtain ⟨rl, r0, r1⟩ := HRB.out
  go_wp2_with fail
  refine HF.out.mono ?_
  rintro e w2 ⟨ca, cc, ra, rn, rc, ka, kn, kc, rfl, -, hg2⟩
  obtain ⟨t, ht⟩ : ∃ t, tabOf ts rt = t := ⟨_, rfl⟩
  rw [ht]
  obtain ⟨W2, hW2⟩ : ∃ W2, W2 = w2.alloc (tObj t.name ca t.cols.length cc t.key ra rn rc ka kn kc) := ⟨_, rfl⟩
  have HG2 : Hid (Gro W W2) := by show Gro _ _; rw [hW2]; exact hg2.alloc _
  have HW2 := Lib.hid hW2
  obtain ⟨q, hq⟩ : ∃ q, inTabs ts rt = q := ⟨_, rfl⟩
  rw [hq] at HR ⊢
  clear hg2 hW2 ht hq sl s0 s1 rl r0 r1
  go_upto_region 2 with fail
  rw [← HW2.out]
  clear HW2
  obtain ⟨sl, s0, s1⟩ := HSB.out.later HG2.out.below
  obtain ⟨rl, r0, r1⟩ := HRB.out.later HG2.out.below
  go_wp2_with fail
  refine (HKK.out _ HG2.out).mono ?_
  rintro e w3 ⟨vw, rfl, hwl, hg3⟩
  obtain ⟨wa, wc, rfl, hwll⟩ := hwl.slice
  have HWL := Lib.hid hwl
  have HG3 := Lib.hid (HG2.out.trans hg3)
  clear hwl hg3 sl s0 s1 rl r0 r1
  obtain ⟨P, hP⟩ : ∃ P, WL.length = P := ⟨_, rfl⟩
  rw [hP] at HWL HR hwll ⊢
  have HP := Lib.hid hP
  clear hP
  obtain ⟨rl, r0, r1⟩ := HRB.out.later HG3.out.below
  cases q with
  | false =>
    have HE : Hid (false = res) := by show _ = _; rw [← HR.out]; rfl
    go_wp2_with fail
    go_ret
    exact boolg HE.out (HG.out.trans HG3.out)
  | true =>
    by_cases hCP : C = P
    · subst hCP
      have HR2 : Hid ((List.range C).all (refAt kinds WL r) = res) := by show _ = _; rw [← HR.out]; simp
      clear HR
      go_wp2_with fail
      go_loopw [10, 11, 36] (fun _ _ y wr => ∃ j : Nat, j ≤ C ∧ y = .int .i64 j ∧ RefTo kinds WL r j ∧ Gro w3 wr) (fun _ _ y _ => C - (intOf y).toNat)
      case atStart => exact ⟨0, by omega, rfl, rfl, Gro.refl _⟩
      case round =>
        obtain ⟨j, hj, rfl, hrt, hgr⟩ := hrel
        have HRT := Lib.hid hrt
        have HGR := Lib.hid (HG3.out.trans hgr)
        have HGW := Lib.hid hgr
        have hwk := step_i j (by omega)
        clear hrt
        by_cases hlt : j < C
        · have hjc : j < r.cols.length := by rw [HC.out]; exact hlt
          have hjw : j < WL.length := by rw [HP.out]; exact hlt
          have hlt' : decide ((j : Int) < (C : Int)) = true := by simp; omega
          have hltI : (j : Int) < (C : Int) := by omega
          obtain ⟨ib, io, rfl, hib, -, i0⟩ := (HRI.out.later HGR.out.below).get hjc
          obtain ⟨wb, wo, rfl, hwb, -, w0⟩ := (HWL.out.later hgr.below).get hjw
          have HRA : Hid (refAt kinds WL r j = (hasN kinds r.cols[j] && decide (atI kinds r.cols[j] = WL[j]))) := by show _ = _; unfold refAt; simp [hjc, hjw]
          generalize r.cols[j] = c at i0 HRA
          generalize WL[j] = wk at w0 HRA
          have HBAD : Hid (refAt kinds WL r j = false → false = res) := fun h => by
            rw [← HR2.out]; symm; rw [List.all_eq_false]; exact ⟨j, by simpa using hlt, by simp [h]⟩
          clear hjc hjw hgr
          by_cases hc0 : c < 0
          · have d0 : decide (c < 0) = true := by simpa using hc0
            have HE := Lib.hid (HBAD.out (by rw [HRA.out, hasN_neg hc0]; rfl))
            go_wp2_with fail
            refine wp_region_quiet_grown mx (by kernel_rfl) ?_
            repeat (go_big_quiet_step (fail))
            refine wpQuiet_nil ?_
            intro x1 hw'
            obtain ⟨⟨nq, osq⟩, hw''⟩ := hw'
            subst hw''
            go_wp2_with fail
            go_ret
            exact boolg HE.out (HG.out.trans (HGR.out.grown _ _))
          · have d0 : decide (c < 0) = false := by simpa using hc0
            by_cases hcM : (M : Int) ≤ c
            · have d1 : decide ((M : Int) ≤ c) = true := by simpa using hcM
              have HE := Lib.hid (HBAD.out (by rw [HRA.out, hasN_past (by rw [HM.out]; exact hcM)]; rfl))
              go_wp2_with fail
              refine wp_region_quiet_grown mx (by kernel_rfl) ?_
              repeat (go_big_quiet_step (fail))
              refine wpQuiet_nil ?_
              intro x1 hw'
              obtain ⟨⟨nq, osq⟩, hw''⟩ := hw'
              subst hw''
              go_wp2_with fail
              go_ret
              exact boolg HE.out (HG.out.trans (HGR.out.grown _ _))
            · obtain ⟨n, rfl⟩ : ∃ n : Nat, c = n := ⟨c.toNat, by omega⟩
              have hnM : n < kinds.length := by rw [HM.out]; omega
              have hnI : (n : Int) < (M : Int) := by omega
              have d1 : decide ((M : Int) ≤ (n : Int)) = false := by simp; omega
              have d2 : decide (M ≤ n) = false := by simp; omega
              have d3 : ¬ M ≤ n := by omega
              have d4 : (0 : Int) ≤ (n : Int) := by omega
              obtain ⟨kb, ko, rfl, hkb, -, k0⟩ := (HKI.out.later HGR.out.below).get hnM
              have HRA2 : Hid (refAt kinds WL r j = decide (kinds[n] = wk)) := by show _ = _; rw [HRA.out, hasN_in hnM, atI_in hnM]; rfl
              generalize kinds[n] = kk at k0 HRA2
              clear hnM
              by_cases he : kk = wk
              · subst he
                have hne : (kk != kk) = false := by simp
                have HF1 := Lib.hid (HRT.out.next (by rw [HRA2.out]; simp))
                go_wp2_with fail
                refine wp_region_quiet_grown mx (by kernel_rfl) ?_
                repeat (go_big_quiet_step (fail))
                refine wpQuiet_nil ?_
                intro x1 hw'
                obtain ⟨⟨nq, osq⟩, hw''⟩ := hw'
                subst hw''
                go_wp2_with fail
                generalize wrap64 ((j : Int) + 1) = z at hwk ⊢
                subst hwk
                go_roundw
                case rel => exact ⟨j + 1, by omega, by go_num, HF1.out, HGW.out.grown _ _⟩
                case measure => simp [intOf]; omega
              · have hne : (kk != wk) = true := by simpa using he
                have HE := Lib.hid (HBAD.out (by rw [HRA2.out, decide_eq_false he]))
                go_wp2_with fail
                refine wp_region_quiet_grown mx (by kernel_rfl) ?_
                repeat (go_big_quiet_step (fail))
                refine wpQuiet_nil ?_
                intro x1 hw'
                obtain ⟨⟨nq, osq⟩, hw''⟩ := hw'
                subst hw''
                go_wp2_with fail
                go_ret
                exact boolg HE.out (HG.out.trans (HGR.out.grown _ _))
        · have hlt' : decide ((j : Int) < (C : Int)) = false := by simp; omega
          have HE : Hid (true = res) := by
            obtain rfl : j = C := by omega
            show _ = _
            rw [← HR2.out]; exact HRT.out.symm
          clear hgr
          go_wp2_with fail
          go_ret
          exact boolg HE.out (HG.out.trans HGR.out)
    · have hne : ((C : Int) != (P : Int)) = true := by simp; omega
      have HE : Hid (false = res) := by show _ = _; rw [← HR.out, decide_eq_false hCP]; rfl
      go_wp2_with fail
      go_ret
      exact boolg HE.out (HG.out.trans HG3.out)
end Go.Proofs.YtpmlhgakbpfgmaaDoor
/- The contracts of schema.validReferences, valid, checkConditions, Check. -/
set_option linter.unusedSimpArgs false
set_option linter.unusedVariables false
namespace Go.Proofs.YtpmlhgakbpfgmaaDoor
open Go.RowKit

/-- The blocks that the closure of validReferences has captured. -/
structure CapsR (w : World) (gs gk : Nat) (ver : Int) (a : Option Addr) (n cap : Nat) (va : Option Addr) (vn vc : Nat) : Prop where
  s : SBox w gs ver a n cap
  l : gk < w.heap.size
  c : w.cell? ⟨gk, 0, none⟩ = some (.slice va vn vc)
theorem CapsR.later {w w' : World} {gs gk : Nat} {ver : Int} {a : Option Addr} {n cap : Nat} {va : Option Addr} {vn vc : Nat} (h : CapsR w gs gk ver a n cap va vn vc) (hw : Below w.heap.size w w') : CapsR w' gs gk ver a n cap va vn vc :=
  ⟨h.s.later hw, Nat.lt_of_lt_of_le h.l hw.size, (hw.cell (p := ⟨gk, 0, none⟩) h.l).trans h.c⟩
set_option maxRecDepth 100000 in
theorem refs1_calls (full : Bool) (k : Nat) (T S Sk Si : Nat → Prop) (ver : Int) (a : Option Addr) (cap : Nat) (ts : List Tab) (va : Option Addr) (vc : Nat) (kinds : List Int) (gs gk : Nat) (r : Rfc) (ia : Option Addr) (ic : Nat) (w : World)
    (hp : TabsAt full k T S w (.slice a ts.length cap) ts) (hk : IntsAt Sk w (.slice va kinds.length vc) kinds) (hr : IntsAt Si w (.slice ia r.cols.length ic) r.cols) (hc : CapsR w gs gk ver a ts.length cap va kinds.length vc) :
    Calls Tryd.prog 68 #[.agg #[.slice ia r.cols.length ic, .int .i64 r.t], .pointer (some ⟨gs, 0, none⟩), .pointer (some ⟨gk, 0, none⟩)] w (BoolG (!refB ts kinds r) w) := by
  obtain ⟨W, hW⟩ : ∃ W, W = w.alloc (.cells #[.slice ia r.cols.length ic, .int .i64 r.t] 54) := ⟨_, rfl⟩
  have hg : Gro w W := by rw [hW]; exact (Gro.refl w).alloc _
  have HRB : Hid (RfBox W w.heap.size ia r.cols.length ic r.t) := by rw [hW]; exact ⟨by simp, by go_simp, by go_simp⟩
  have HV := Lib.hid (validReference_calls full k T S Sk Si ver (.slice a ts.length cap) ts (.slice va kinds.length vc) kinds r ia ic W (hp.later hg.below) (hk.later hg.below) (hr.later hg.below))
  obtain ⟨⟨sl, s0, s1⟩, kl, k0⟩ := hc.later hg.below
  obtain ⟨rl, r0, r1⟩ := HRB.out
  obtain ⟨q, hq⟩ : ∃ q, refB ts kinds r = q := ⟨_, rfl⟩
  rw [hq] at HV ⊢
  have HG := Lib.hid hg
  have HW := Lib.hid hW
  generalize ts.length = L at HV s1 ⊢
  generalize kinds.length = M at HV k0 ⊢
  generalize r.cols.length = C at HV r0 HW ⊢
  clear hg hW hq hp hk hr hc HRB
  go_enter Tryd.func68, Tryd.ntmps68
  go_upto_region 1 with fail
  rw [← HW.out]
  go_wp2_with fail
  refine HV.out.mono ?_
  rintro e w2 ⟨rfl, hg2⟩
  have HG2 := Lib.hid (HG.out.trans hg2)
  clear hg2
  go_wp2
  go_ret
  exact boolg rfl HG2.out
def refsT (ts : List Tab) (n : Nat) : Bool := !((tabOf ts n).refs.any fun r => !refB ts (kindsS ts n) r)
set_option maxHeartbeats 4000000 in
set_option maxRecDepth 100000 in
theorem validReferences_calls (k : Nat) (T S : Nat → Prop) (ver : Int) (v : Value) (ts : List Tab) (n : Nat) (hn : n < ts.length) (w : World) (hp : TabsAt true k T S w v ts) :
    Calls Tryd.prog 52 #[.agg #[.int .i64 ver, v], .int .i64 n] w (BoolG (refsT ts n) w) := by
  obtain ⟨a, cap, rfl, hl⟩ := hp.slice
  obtain ⟨W, hW⟩ : ∃ W, W = w.alloc (.cells #[.int .i64 ver, .slice a ts.length cap] 25) := ⟨_, rfl⟩
  have hg : Gro w W := by rw [hW]; exact (Gro.refl w).alloc _
  have HSB : Hid (SBox W w.heap.size ver a ts.length cap) := by rw [hW]; exact SBox.new _ _ _ _ _ _
  have HTS := Lib.hid (hp.later hg.below)
  have HKS := Lib.hid (sKinds_new true k T S ver (.slice a ts.length cap) ts n W (hp.later hg.below))
  have HG := Lib.hid hg
  have HW := Lib.hid hW
  have hnI : (n : Int) < (ts.length : Int) := by omega
  clear hp hg hW
  obtain ⟨kinds, hkd⟩ : ∃ l, kindsS ts n = l := ⟨_, rfl⟩
  rw [hkd] at HKS
  have HKD := Lib.hid hkd
  have HN := Lib.hid hn
  obtain ⟨L, hL⟩ : ∃ L, ts.length = L := ⟨_, rfl⟩
  have HL := Lib.hid hL
  rw [hL] at HKS HSB HW hnI ⊢
  clear hkd hL
  go_enter Tryd.func52, Tryd.ntmps52
  go_upto_region 1 with fail
  rw [← HW.out]
  clear HW
  obtain ⟨sl, s0, s1⟩ := HSB.out
  go_wp2_with fail
  refine HKS.out.mono ?_
  rintro e w2 ⟨vk, rfl, hvk, hg2⟩
  obtain ⟨va, vc, rfl, -⟩ := hvk.slice
  obtain ⟨W2, hW2⟩ : ∃ W2, W2 = w2.alloc (.cells #[.slice va kinds.length vc] 34) := ⟨_, rfl⟩
  have hgw2 : Gro w2 W2 := by rw [hW2]; exact (Gro.refl _).alloc _
  have HCAP : Hid (CapsR W2 w.heap.size w2.heap.size ver a L cap va kinds.length vc) := ⟨HSB.out.later (hg2.trans hgw2).below, by rw [hW2]; simp, by rw [hW2]; go_simp⟩
  have HKI := Lib.hid (hvk.later hgw2.below)
  have HGA := Lib.hid (hg2.trans hgw2)
  have HW2 := Lib.hid hW2
  have hTS2 := HTS.out.later (hg2.trans hgw2).below
  obtain ⟨b, off, ha, hb, -, ca, cc, ra, rn, rc, ka, kn, kc, ⟨d0, d1, d2, d3, d4⟩, hv⟩ := hTS2.get HN.out
  have hrf := hv.refs rfl
  obtain ⟨ra', rc', hsl, hrl⟩ := hrf.slice
  simp only [Value.slice.injEq] at hsl
  obtain ⟨rfl, rfl, rfl⟩ := hsl
  have HRT : Hid (refsT ts n = !(ts[n].refs.any fun r => !refB ts kinds r)) := by show _ = _; unfold refsT; rw [tabOf_nat HN.out, HKD.out]; rfl
  have HTS2 := Lib.hid hTS2
  have HCF := Lib.hid (containsReference S w.heap.size w2.heap.size _ ts[n].refs (fun r => !refB ts kinds r) W2 hrf (fun x ia ic w' hg' hi _ => by
    have h := refs1_calls true k T S _ S ver a cap ts va vc kinds w.heap.size w2.heap.size x ia ic w' (HTS2.out.later hg'.below) (HKI.out.later hg'.below) hi (by rw [HL.out]; exact HCAP.out.later hg'.below)
    exact h))
  obtain ⟨q, hq⟩ : ∃ q, (ts[n].refs.any fun r => !refB ts kinds r) = q := ⟨_, rfl⟩
  rw [hq] at HCF HRT
  generalize ts[n].refs.length = RN at d3 HCF
  generalize kinds.length = M at HW2 HCAP
  subst ha
  clear hg2 hvk hgw2 hW2 hTS2 hv hrf hq d0 d1 d2 d4 sl s0 s1
  go_upto_region 2 with fail
  rw [← HW2.out]
  clear HW2
  obtain ⟨⟨sl, s0, s1⟩, kl, k0⟩ := HCAP.out
  go_wp2_with fail
  refine HCF.out.mono ?_
  rintro e w3 ⟨rfl, hg3⟩
  have HG3 := Lib.hid (HG.out.trans (HGA.out.trans hg3))
  clear hg3
  go_wp2
  go_ret
  exact boolg HRT.out.symm HG3.out
end Go.Proofs.YtpmlhgakbpfgmaaDoor
