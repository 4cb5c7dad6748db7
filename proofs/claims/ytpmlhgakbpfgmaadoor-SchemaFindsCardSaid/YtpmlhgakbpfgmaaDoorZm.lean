/- The contracts of schema.valid, checkConditions, Check. -/
import Derived.Test.YtpmlhgakbpfgmaaDoorZk
set_option linter.unusedSimpArgs false
set_option linter.unusedVariables false
namespace Go.Proofs.YtpmlhgakbpfgmaaDoor
open Go.RowKit

noncomputable def tabOk (ts : List Tab) (n : Nat) : Bool := validColsT (tabOf ts n) && refsT ts n
noncomputable def validS (ver : Int) (ts : List Tab) : Bool := decide (0 ≤ ver) && decide (ver ≤ 1000) && namesB [] (ts.map Tab.name) && (List.range ts.length).all (tabOk ts)
def TabsTo (ts : List Tab) (j : Nat) : Prop := (List.range j).all (tabOk ts) = true
theorem TabsTo.next {ts : List Tab} {j : Nat} (h : TabsTo ts j) (hc : tabOk ts j = true) : TabsTo ts (j + 1) := by
  unfold TabsTo at h ⊢
  rw [List.range_succ, List.all_append, h]
  simp [hc]
set_option maxHeartbeats 4000000 in
set_option maxRecDepth 100000 in
theorem valid7_calls (k : Nat) (T S : Nat → Prop) (ver : Int) (v : Value) (ts : List Tab) (w : World) (hp : TabsAt true k T S w v ts) :
    Calls Tryd.prog 37 #[.agg #[.int .i64 ver, v]] w (BoolG (validS ver ts) w) := by
  obtain ⟨a, cap, rfl, hl⟩ := hp.slice
  obtain ⟨W, hW⟩ : ∃ W, W = w.alloc (.cells #[.int .i64 ver, .slice a ts.length cap] 25) := ⟨_, rfl⟩
  have hg : Gro w W := by rw [hW]; exact (Gro.refl w).alloc _
  have HSB : Hid (SBox W w.heap.size ver a ts.length cap) := by rw [hW]; exact SBox.new _ _ _ _ _ _
  have HTS := Lib.hid (hp.later hg.below)
  have HVN := Lib.hid (validNamesT_calls true k T S (.slice a ts.length cap) ts W (hp.later hg.below))
  have HVR := Lib.hid (fun (n : Nat) (hn : n < ts.length) w' (h : Gro W w') => validReferences_calls k T S ver (.slice a ts.length cap) ts n hn w' (hp.later (hg.trans h).below))
  have HG := Lib.hid hg
  have HW := Lib.hid hW
  clear hp hg hW
  obtain ⟨res, hres⟩ : ∃ res, validS ver ts = res := ⟨_, rfl⟩
  rw [hres]
  have HR := Lib.hid hres
  unfold validS at HR
  obtain ⟨qn, hqn⟩ : ∃ q, namesB [] (ts.map Tab.name) = q := ⟨_, rfl⟩
  rw [hqn] at HVN HR
  obtain ⟨L, hL⟩ : ∃ L, ts.length = L := ⟨_, rfl⟩
  have HL := Lib.hid hL
  rw [hL] at HSB HTS HVN HVR HW HR hl ⊢
  clear hres hL hqn
  by_cases h0 : ver < 0
  · have d0 : decide (ver < 0) = true := by simpa using h0
    have HE : Hid (false = res) := by show _ = _; rw [← HR.out, decide_eq_false (p := 0 ≤ ver) (by omega)]; simp
    go_enter Tryd.func37, Tryd.ntmps37
    go_upto_region 1 with fail
    rw [← HW.out]
    obtain ⟨sl, s0, s1⟩ := HSB.out
    go_wp2
    go_ret
    exact boolg HE.out HG.out
  have d0 : decide (ver < 0) = false := by simpa using h0
  by_cases h1 : 1000 < ver
  · have d1 : decide (1000 < ver) = true := by simpa using h1
    have HE : Hid (false = res) := by show _ = _; rw [← HR.out, decide_eq_false (p := ver ≤ 1000) (by omega)]; simp
    go_enter Tryd.func37, Tryd.ntmps37
    go_upto_region 1 with fail
    rw [← HW.out]
    obtain ⟨sl, s0, s1⟩ := HSB.out
    go_wp2
    go_ret
    exact boolg HE.out HG.out
  have d1 : decide (1000 < ver) = false := by simpa using h1
  have HR1 : Hid ((qn && (List.range L).all (tabOk ts)) = res) := by show _ = _; rw [← HR.out, decide_eq_true (p := 0 ≤ ver) (by omega), decide_eq_true (p := ver ≤ 1000) (by omega)]; rfl
  clear HR
  go_enter Tryd.func37, Tryd.ntmps37
  go_upto_region 1 with fail
  rw [← HW.out]
  clear HW
  obtain ⟨sl, s0, s1⟩ := HSB.out
  go_wp2_with fail
  refine HVN.out.mono ?_
  rintro e w2 ⟨rfl, hg2⟩
  have HG2 := Lib.hid hg2
  clear hg2 sl s0 s1 HVN
  obtain ⟨sl, s0, s1⟩ := HSB.out.later HG2.out.below
  cases qn with
  | false =>
    have HE : Hid (false = res) := HR1.out
    go_wp2
    go_ret
    exact boolg HE.out (HG.out.trans HG2.out)
  | true =>
    have HR2 : Hid ((List.range L).all (tabOk ts) = res) := HR1.out
    clear HR1
    go_wp2_with fail
    clear sl s0 s1
    go_loopw [3, 4, 22] (fun _ _ y wr => ∃ j : Nat, j ≤ L ∧ y = .int .i64 j ∧ TabsTo ts j ∧ Gro w2 wr) (fun _ _ y _ => L - (intOf y).toNat)
    case atStart => exact ⟨0, by omega, rfl, rfl, Gro.refl _⟩
    case round =>
      obtain ⟨j, hj, rfl, hto, hgr⟩ := hrel
      have HTO := Lib.hid hto
      have HGW := Lib.hid hgr
      have HGR := Lib.hid (HG2.out.trans hgr)
      have hwk := step_i j (by omega)
      clear hto
      by_cases hlt : j < L
      · have hjl : j < ts.length := by rw [HL.out]; exact hlt
        have hlt' : decide ((j : Int) < (L : Int)) = true := by simp; omega
        obtain ⟨b, off, rfl, hbl, -, ca, cc, ra, rn, rc, ka, kn, kc, ⟨t0, t1, t2, t3, t4⟩, hv⟩ := (HTS.out.later HGR.out.below).get hjl
        have HJL := Lib.hid hjl
        have HTB : Hid (tabOk ts j = (validColsT ts[j] && refsT ts j)) := by show _ = _; unfold tabOk; rw [tabOf_nat hjl]; rfl
        have HBAD : Hid (tabOk ts j = false → false = res) := fun h => by
          rw [← HR2.out]; symm; rw [List.all_eq_false]; exact ⟨j, by simpa using hlt, by simp [h]⟩
        have HCO := Lib.hid hv.cols
        generalize ts[j] = t at t0 t1 t2 HTB HCO
        obtain ⟨W1, hW1⟩ : ∃ W1, W1 = wr.alloc (tObj t.name ca t.cols.length cc t.key ra rn rc ka kn kc) := ⟨_, rfl⟩
        have hgw1 : Gro wr W1 := by rw [hW1]; exact (Gro.refl _).alloc _
        have HBX : Hid (TBox W1 wr.heap.size t.name ca t.cols.length cc t.key ra rn rc ka kn kc) := by rw [hW1]; exact TBox.new _ _ _ _ _ _ _ _ _ _ _ _
        have HVC := Lib.hid (validColumns_calls S t ca cc ra rn rc ka kn kc W1 (HCO.out.later hgw1.below))
        have HW1 := Lib.hid hW1
        have HGW1 := Lib.hid (HGR.out.trans hgw1)
        have HGR1 := Lib.hid (hgr.trans hgw1)
        obtain ⟨vq, hvq⟩ : ∃ q, validColsT t = q := ⟨_, rfl⟩
        obtain ⟨rq, hrq⟩ : ∃ q, refsT ts j = q := ⟨_, rfl⟩
        have HRF : Hid (∀ w', Gro W w' → Calls Tryd.prog 52 #[.agg #[.int .i64 ver, .slice (some ⟨b, off, none⟩) L cap], .int .i64 j] w' (BoolG rq w')) := fun w' h => by rw [← hrq]; exact HVR.out j hlt w' h
        rw [hvq] at HVC HTB
        rw [hrq] at HTB
        generalize t.cols.length = C at t1 HBX HVC HW1
        clear hv hgw1 hW1 hvq hrq hjl hgr
        go_upto_region 6 with fail
        rw [← HW1.out]
        clear HW1 t0 t1 t2 t3 t4
        obtain ⟨bl, b0, b1, b2, b3, b4⟩ := HBX.out
        go_wp2_with fail
        refine HVC.out.mono ?_
        rintro e w4 ⟨rfl, hg4⟩
        have HG4 := Lib.hid (HGW1.out.trans hg4)
        have HG4r := Lib.hid (HGR1.out.trans hg4)
        clear hg4 bl b0 b1 b2 b3 b4
        obtain ⟨sl, s0, s1⟩ := HSB.out.later HG4.out.below
        cases vq with
        | false =>
          have HE := Lib.hid (HBAD.out (by rw [HTB.out]; rfl))
          go_wp2_with fail
          go_ret
          exact boolg HE.out (HG.out.trans HG4.out)
        | true =>
          go_wp2_with fail
          refine (HRF.out _ HG4.out).mono ?_
          rintro e w5 ⟨rfl, hg5⟩
          have HG5 := Lib.hid (HG4.out.trans hg5)
          have HG5r := Lib.hid (HG4r.out.trans hg5)
          clear hg5
          cases rq with
          | false =>
            have HE := Lib.hid (HBAD.out (by rw [HTB.out]; rfl))
            go_wp2_with fail
            go_ret
            exact boolg HE.out (HG.out.trans HG5.out)
          | true =>
            have HF1 := Lib.hid (HTO.out.next (by rw [HTB.out]; rfl))
            go_wp2_with fail
            generalize wrap64 ((j : Int) + 1) = z at hwk ⊢
            subst hwk
            go_roundw
            case rel => exact ⟨j + 1, by omega, by go_num, HF1.out, HG5r.out⟩
            case measure => simp [intOf]; omega
      · have hlt' : decide ((j : Int) < (L : Int)) = false := by simp; omega
        have HE : Hid (true = res) := by
          obtain rfl : j = L := by omega
          show _ = _
          rw [← HR2.out]; exact HTO.out.symm
        clear hgr
        go_wp2_with fail
        go_ret
        exact boolg HE.out (HG.out.trans HGR.out)
/-- The first number that is not 0, or 0. -/
def firstNZ (l : List Int) : Int := (l.find? fun x => decide (x ≠ 0)).getD 0
theorem firstNZ_none {l : List Int} (h : ∀ x ∈ l, x = 0) : firstNZ l = 0 := by
  unfold firstNZ
  rw [List.find?_eq_none.2 (fun x hx => by simp [h x hx])]; rfl
theorem firstNZ_hit {l : List Int} {j : Nat} (hj : j < l.length) (h0 : ∀ x ∈ l.take j, x = 0) (h : l[j] ≠ 0) : firstNZ l = l[j] := by
  unfold firstNZ
  have e : l = l.take j ++ l[j] :: l.drop (j + 1) := by rw [← List.drop_eq_getElem_cons hj, List.take_append_drop]
  have hn : (l.take j).find? (fun x => decide (x ≠ 0)) = none := List.find?_eq_none.2 (fun x hx => by simp [h0 x hx])
  generalize l[j] = y at e h
  rw [e, List.find?_append, hn]
  simp [h]
noncomputable def condsE (kinds : List Int) (ps : List Pr) : Int := firstNZ (ps.map (checkE kinds []))
noncomputable def condE (ts : List Tab) : Int := firstNZ (ts.map fun t => condsE (kindsT t) t.checks)
def Zeros (l : List Int) (j : Nat) : Prop := ∀ x ∈ l.take j, x = 0
theorem Zeros.next {l : List Int} {j : Nat} (h : Zeros l j) (hj : j < l.length) (hx : l[j] = 0) : Zeros l (j + 1) := by
  intro x hm
  rw [List.take_succ_eq_append_getElem hj, List.mem_append] at hm
  rcases hm with hm | hm
  · exact h x hm
  · rw [List.mem_singleton] at hm; rw [hm, hx]
set_option maxHeartbeats 8000000 in
set_option maxRecDepth 100000 in
theorem checkConditions_calls (k : Nat) (T S : Nat → Prop) (ver : Int) (v : Value) (ts : List Tab) (w : World) (hsh : Shapes w) (hp : TabsAt true (k + 1) T S w v ts) :
    Calls Tryd.prog 38 #[.agg #[.int .i64 ver, v]] w (IntG (condE ts) w) := by
  obtain ⟨a, cap, rfl, hl⟩ := hp.slice
  obtain ⟨W, hW⟩ : ∃ W, W = w.alloc (.cells #[.int .i64 ver, .slice a ts.length cap] 25) := ⟨_, rfl⟩
  have hg : Gro w W := by rw [hW]; exact (Gro.refl w).alloc _
  have HSB : Hid (SBox W w.heap.size ver a ts.length cap) := by rw [hW]; exact SBox.new _ _ _ _ _ _
  have HTS := Lib.hid (hp.later hg.below)
  have HSH := Lib.hid (hsh.later hg.below)
  have HKS := Lib.hid (fun (n : Nat) w' (h : Gro W w') => sKinds_new true (k + 1) T S ver (.slice a ts.length cap) ts n w' (hp.later (hg.trans h).below))
  have HG := Lib.hid hg
  have HW := Lib.hid hW
  clear hp hg hW hsh
  obtain ⟨res, hres⟩ : ∃ res, condE ts = res := ⟨_, rfl⟩
  rw [hres]
  have HR := Lib.hid hres
  unfold condE at HR
  obtain ⟨L, hL⟩ : ∃ L, ts.length = L := ⟨_, rfl⟩
  have HL := Lib.hid hL
  rw [hL] at HSB HTS HKS HW hl ⊢
  clear hres hL
  go_enter Tryd.func38, Tryd.ntmps38
  go_upto_region 1 with fail
  rw [← HW.out]
  clear HW
  obtain ⟨sl, s0, s1⟩ := HSB.out
  go_wp2_with fail
  clear sl s0 s1
  go_loopw [3, 4, 5, 7, 8, 12, 23] (fun _ _ _ _ _ y _ wr => ∃ j : Nat, j ≤ L ∧ y = .int .i64 j ∧ Zeros (ts.map fun t => condsE (kindsT t) t.checks) j ∧ Gro W wr) (fun _ _ _ _ _ y _ _ => L - (intOf y).toNat)
  case atStart => exact ⟨0, by omega, rfl, fun x hx => absurd hx (by simp), Gro.refl _⟩
  case round =>
    obtain ⟨j, hj, rfl, hto, hgr⟩ := hrel
    have HTO := Lib.hid hto
    have HGR := Lib.hid hgr
    have hwk := step_i j (by omega)
    clear hto
    by_cases hlt : j < L
    · have hjl : j < ts.length := by rw [HL.out]; exact hlt
      have hlt' : decide ((j : Int) < (L : Int)) = true := by simp; omega
      obtain ⟨b, off, rfl, hbl, -, ca, cc, ra, rn, rc, ka, kn, kc, ⟨t0, t1, t2, t3, t4⟩, hv⟩ := (HTS.out.later hgr.below).get hjl
      have HKJ : Hid (kindsS ts j = kindsT ts[j]) := by show _ = _; unfold kindsS; rw [tabOf_nat hjl]
      have HNX : Hid (condsE (kindsT ts[j]) ts[j].checks = 0 → Zeros (ts.map fun t => condsE (kindsT t) t.checks) (j + 1)) := fun h => HTO.out.next (by simpa using hjl) (by simpa using h)
      have HHIT : Hid (condsE (kindsT ts[j]) ts[j].checks ≠ 0 → condsE (kindsT ts[j]) ts[j].checks = res) := fun h => by
        rw [← HR.out, firstNZ_hit (l := ts.map fun t => condsE (kindsT t) t.checks) (j := j) (by simpa using hjl) HTO.out (by simpa using h)]; simp
      have HPR := Lib.hid (hv.checks rfl)
      obtain ⟨ka', kc', hsl, hcl⟩ := HPR.out.shape
      simp only [Value.slice.injEq] at hsl
      obtain ⟨rfl, rfl, rfl⟩ := hsl
      generalize ts[j] = t at t0 t1 t2 t4 HKJ HNX HHIT HPR hcl
      obtain ⟨W1, hW1⟩ : ∃ W1, W1 = wr.alloc (tObj t.name ca t.cols.length cc t.key ra rn rc ka t.checks.length kc) := ⟨_, rfl⟩
      have hgw1 : Gro wr W1 := by rw [hW1]; exact (Gro.refl _).alloc _
      have HBX : Hid (TBox W1 wr.heap.size t.name ca t.cols.length cc t.key ra rn rc ka t.checks.length kc) := by rw [hW1]; exact TBox.new _ _ _ _ _ _ _ _ _ _ _ _
      have HPR1 := Lib.hid (HPR.out.later hgw1.below)
      have HK1 := Lib.hid (HKS.out j W1 (hgr.trans hgw1))
      rw [HKJ.out] at HK1
      have HW1 := Lib.hid hW1
      have HGW1 := Lib.hid (hgr.trans hgw1)
      obtain ⟨M, hM⟩ : ∃ M, t.checks.length = M := ⟨_, rfl⟩
      rw [hM] at t4 HBX HW1 HPR1 hcl
      have HM := Lib.hid hM
      obtain ⟨kinds, hkd⟩ : ∃ l, kindsT t = l := ⟨_, rfl⟩
      rw [hkd] at HK1 HNX HHIT
      generalize t.cols.length = C at t1 HBX HW1
      clear hv hgw1 hW1 hM hjl hgr HPR hkd HKJ
      go_upto_region 4 with fail
      rw [← HW1.out]
      clear HW1 t0 t1 t2 t3 t4
      obtain ⟨sl, s0, s1⟩ := HSB.out.later HGW1.out.below
      go_wp2_with fail
      refine HK1.out.mono ?_
      rintro e w4 ⟨vk, rfl, hvk, hg4⟩
      obtain ⟨va, vc, rfl, -⟩ := hvk.slice
      have HVK := Lib.hid hvk
      have HG4 := Lib.hid (HGW1.out.trans hg4)
      have HPR4 := Lib.hid (HPR1.out.later hg4.below)
      have HBX4 := Lib.hid (HBX.out.later hg4.below)
      clear hvk hg4 sl s0 s1
      generalize hKN : kinds.length = KN at HVK ⊢
      clear hKN
      obtain ⟨bl, b0, b1, b2, b3, b4⟩ := HBX4.out
      go_wp2_with fail
      clear bl b0 b1 b2 b3 b4
      go_loopw [7, 8, 23] (fun _ _ y wq => ∃ i : Nat, i ≤ M ∧ y = .int .i64 i ∧ Zeros (t.checks.map (checkE kinds [])) i ∧ Gro w4 wq) (fun _ _ y _ => M - (intOf y).toNat)
      case atStart => exact ⟨0, by omega, rfl, fun x hx => absurd hx (by simp), Gro.refl _⟩
      case round =>
        obtain ⟨i, hi, rfl, hz, hgq⟩ := hrel
        have HZ := Lib.hid hz
        have HGQ := Lib.hid (HG4.out.trans hgq)
        have HGQ4 := Lib.hid hgq
        have hwi := step_i i (by omega)
        clear hz
        by_cases hlti : i < M
        · have hil : i < t.checks.length := by rw [HM.out]; exact hlti
          have hlti' : decide ((i : Int) < (M : Int)) = true := by simp; omega
          obtain ⟨pb, po, s, rfl, hpb, -, hat, hin⟩ := (HPR4.out.later hgq.below).get hil
          have HNZ : Hid (checkE kinds [] t.checks[i] = 0 → Zeros (t.checks.map (checkE kinds [])) (i + 1)) := fun h => HZ.out.next (by simpa using hil) (by simpa using h)
          have HHZ : Hid (checkE kinds [] t.checks[i] ≠ 0 → checkE kinds [] t.checks[i] = res) := fun h => by
            have e : condsE kinds t.checks = checkE kinds [] t.checks[i] := by
              unfold condsE
              rw [firstNZ_hit (l := t.checks.map (checkE kinds [])) (j := i) (by simpa using hil) HZ.out (by simpa using h)]; simp
            rw [← e]; exact HHIT.out (by rw [e]; exact h)
          generalize t.checks[i] = p at hat hin HNZ HHZ
          obtain ⟨W2, hW2⟩ : ∃ W2, W2 = wr.alloc (pBlock p s 60) := ⟨_, rfl⟩
          have hgw2 : Gro wr W2 := by rw [hW2]; exact (Gro.refl _).alloc _
          have HPB : Hid (PBox W2 wr.heap.size p s) := by rw [hW2]; exact PBox.new _ _ _ _
          have HCK := Lib.hid (check_calls S (fun g => W1.heap.size ≤ g) (fun _ => True) (.slice va KN vc) (.slice none 0 0) kinds [] k p s W2 (HSH.out.later (HGQ.out.trans hgw2).below) (HVK.out.later (hgq.trans hgw2).below) (IntsAt.nil none 0) (hin.later hgw2.below))
          have HGW2 := Lib.hid (HGQ.out.trans hgw2)
          have HGW24 := Lib.hid (hgq.trans hgw2)
          have HW2 := Lib.hid hW2
          obtain ⟨sa, scp, hss, -⟩ := hin.shape
          subst hss
          obtain ⟨x, hx⟩ : ∃ x, checkE kinds [] p = x := ⟨_, rfl⟩
          rw [hx] at HCK HNZ HHZ
          obtain ⟨d0, d1, d2, d3, d4, d5, d6, d7, d8, d9, d10, d11, d12⟩ := hat
          clear hin hgw2 hW2 hx hil hgq
          go_upto_region 8 with fail
          have hw2 := HW2.out
          simp only [pBlock, pObj] at hw2
          rw [← hw2]
          clear hw2 HW2 d0 d1 d2 d3 d4 d5 d6 d7 d8 d9 d10 d11 d12
          obtain ⟨l, b0, b1, b2, b3, b4, b5, b6, b7, b8, b9, b10, b11, b12⟩ := HPB.out
          go_wp2_with fail
          refine HCK.out.mono ?_
          rintro e w5 ⟨rfl, hg5⟩
          have HG5 := Lib.hid (HGW2.out.trans hg5)
          have HG54 := Lib.hid (HGW24.out.trans hg5)
          clear hg5 l b0 b1 b2 b3 b4 b5 b6 b7 b8 b9 b10 b11 b12 HCK HPB
          by_cases hx0 : x = 0
          · subst hx0
            have HZ1 := Lib.hid (HNZ.out rfl)
            go_wp2_with fail
            generalize wrap64 ((i : Int) + 1) = z at hwi ⊢
            subst hwi
            go_roundw
            case rel => exact ⟨i + 1, by omega, by go_num, HZ1.out, HG54.out⟩
            case measure => simp [intOf]; omega
          · have hx1 : (x != 0) = true := by simpa using hx0
            have HE := Lib.hid (HHZ.out hx0)
            go_wp2_with fail
            go_ret
            exact intg HE.out (HG.out.trans HG5.out)
        · have hlti' : decide ((i : Int) < (M : Int)) = false := by simp; omega
          have HZ1 : Hid (Zeros (ts.map fun t => condsE (kindsT t) t.checks) (j + 1)) := by
            obtain rfl : i = M := by omega
            refine HNX.out ?_
            unfold condsE
            refine firstNZ_none fun x hx => HZ.out x ?_
            rw [List.take_of_length_le (by rw [List.length_map]; have := HM.out; omega)]; exact hx
          clear hgq
          go_wp2_with fail
          generalize wrap64 ((j : Int) + 1) = z at hwk ⊢
          subst hwk
          go_roundw
          case rel => exact ⟨j + 1, by omega, by go_num, HZ1.out, HGQ.out⟩
          case measure => simp [intOf]; omega
    · have hlt' : decide ((j : Int) < (L : Int)) = false := by simp; omega
      have HE : Hid (0 = res) := by
        obtain rfl : j = L := by omega
        show _ = _
        rw [← HR.out, firstNZ_none]
        intro x hx
        exact HTO.out x (by rw [List.take_of_length_le (by rw [List.length_map]; have := HL.out; omega)]; exact hx)
      clear hgr
      go_wp2_with fail
      go_ret
      exact intg HE.out (HG.out.trans HGR.out)
end Go.Proofs.YtpmlhgakbpfgmaaDoor
/- The contract of schema.Check. -/
set_option linter.unusedSimpArgs false
set_option linter.unusedVariables false
namespace Go.Proofs.YtpmlhgakbpfgmaaDoor
open Go.RowKit

/-- The error of a schema. -/
noncomputable def checkS (ver : Int) (ts : List Tab) : Int := if decide (8 < ts.length) || ts.any largeT then 2 else if validS ver ts then condE ts else 70
theorem large_calls (full : Bool) (k : Nat) (T S : Nat → Prop) (v : Value) (ts : List Tab) (w : World) (hp : TabsAt true k T S w v ts) :
    Calls Tryd.prog 35 #[v, .func (.func 36) #[] #[]] w (BoolG (ts.any largeT) w) :=
  containsTable true k T S v ts largeT w hp (fun x ca cc ra rn rc ka kn kc w' _ hv _ => by
    obtain ⟨ra', rc', hsl, -⟩ := (hv.refs rfl).slice
    obtain ⟨ka', kc', hsl2, -⟩ := (hv.checks rfl).shape
    simp only [Value.slice.injEq] at hsl hsl2
    obtain ⟨rfl, rfl, rfl⟩ := hsl
    obtain ⟨rfl, rfl, rfl⟩ := hsl2
    exact tooLarge_calls x.name ca x.cols.length cc x.key ra x.refs.length rc ka x.checks.length kc w')
set_option maxHeartbeats 4000000 in
set_option maxRecDepth 100000 in
theorem sCheck_calls (k : Nat) (T S : Nat → Prop) (ver : Int) (v : Value) (ts : List Tab) (w : World) (hsh : Shapes w) (hp : TabsAt true (k + 1) T S w v ts) :
    Calls Tryd.prog 30 #[.agg #[.int .i64 ver, v]] w (IntG (checkS ver ts) w) := by
  obtain ⟨a, cap, rfl, hl⟩ := hp.slice
  obtain ⟨W, hW⟩ : ∃ W, W = w.alloc (.cells #[.int .i64 ver, .slice a ts.length cap] 25) := ⟨_, rfl⟩
  have hg : Gro w W := by rw [hW]; exact (Gro.refl w).alloc _
  have HSB : Hid (SBox W w.heap.size ver a ts.length cap) := by rw [hW]; exact SBox.new _ _ _ _ _ _
  have HLG := Lib.hid (large_calls true (k + 1) T S (.slice a ts.length cap) ts W (hp.later hg.below))
  have HVA := Lib.hid (fun w' (h : Gro W w') => valid7_calls (k + 1) T S ver (.slice a ts.length cap) ts w' (hp.later (hg.trans h).below))
  have HCO := Lib.hid (fun w' (h : Gro W w') => checkConditions_calls k T S ver (.slice a ts.length cap) ts w' (hsh.later (hg.trans h).below) (hp.later (hg.trans h).below))
  have HG := Lib.hid hg
  have HW := Lib.hid hW
  clear hp hg hW hsh
  obtain ⟨res, hres⟩ : ∃ res, checkS ver ts = res := ⟨_, rfl⟩
  rw [hres]
  have HR := Lib.hid hres
  unfold checkS at HR
  obtain ⟨ql, hql⟩ : ∃ q, ts.any largeT = q := ⟨_, rfl⟩
  obtain ⟨qv, hqv⟩ : ∃ q, validS ver ts = q := ⟨_, rfl⟩
  obtain ⟨x, hx⟩ : ∃ q, condE ts = q := ⟨_, rfl⟩
  obtain ⟨L, hL⟩ : ∃ L, ts.length = L := ⟨_, rfl⟩
  rw [hql] at HLG HR
  rw [hqv] at HVA HR
  rw [hx] at HCO HR
  rw [hL] at HSB HLG HVA HCO HW HR hl ⊢
  clear hres hL hqv hql hx
  by_cases h8 : 8 < L
  · have d8 : decide ((8 : Int) < (L : Int)) = true := by simp; omega
    have HE : Hid (2 = res) := by show _ = _; rw [← HR.out, decide_eq_true h8]; rfl
    go_enter Tryd.func30, Tryd.ntmps30
    go_upto_region 1 with fail
    rw [← HW.out]
    obtain ⟨sl, s0, s1⟩ := HSB.out
    go_wp2
    go_ret
    exact intg HE.out HG.out
  have d8 : decide ((8 : Int) < (L : Int)) = false := by simp; omega
  have HR1 : Hid ((if ql = true then 2 else if qv = true then x else 70) = res) := by show _ = _; rw [← HR.out, decide_eq_false h8, Bool.false_or]
  clear HR
  go_enter Tryd.func30, Tryd.ntmps30
  go_upto_region 1 with fail
  rw [← HW.out]
  clear HW
  obtain ⟨sl, s0, s1⟩ := HSB.out
  go_wp2_with fail
  refine HLG.out.mono ?_
  rintro e w2 ⟨rfl, hg2⟩
  have HG2 := Lib.hid hg2
  clear hg2 sl s0 s1
  obtain ⟨sl, s0, s1⟩ := HSB.out.later HG2.out.below
  cases ql with
  | true =>
    have HE : Hid (2 = res) := HR1.out
    go_wp2
    go_ret
    exact intg HE.out (HG.out.trans HG2.out)
  | false =>
    go_wp2_with fail
    refine (HVA.out _ HG2.out).mono ?_
    rintro e w3 ⟨rfl, hg3⟩
    have HG3 := Lib.hid (HG2.out.trans hg3)
    clear hg3 sl s0 s1
    obtain ⟨sl, s0, s1⟩ := HSB.out.later HG3.out.below
    cases qv with
    | false =>
      have HE : Hid (70 = res) := HR1.out
      go_wp2
      go_ret
      exact intg HE.out (HG.out.trans HG3.out)
    | true =>
      have HE : Hid (x = res) := HR1.out
      go_wp2_with fail
      refine (HCO.out _ HG3.out).mono ?_
      rintro e w4 ⟨rfl, hg4⟩
      have HG4 := Lib.hid (HG3.out.trans hg4)
      clear hg4
      go_wp2
      go_ret
      exact intg HE.out (HG.out.trans HG4.out)
end Go.Proofs.YtpmlhgakbpfgmaaDoor
