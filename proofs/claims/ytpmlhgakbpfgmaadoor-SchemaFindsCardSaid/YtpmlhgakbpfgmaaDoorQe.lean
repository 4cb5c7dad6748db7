/- The contract of the case's tree. -/
import Derived.Test.YtpmlhgakbpfgmaaDoorQd
import Derived.Deep.CutRange
set_option linter.unusedSimpArgs false
set_option linter.unusedVariables false
namespace Go.Proofs.YtpmlhgakbpfgmaaDoor
open Go.RowKit

theorem op_mk (o c : Int) (l r : Od) (a : List Pr) : (Pr.mk o c l r a).op = o := rfl
theorem cmp_mk (o c : Int) (l r : Od) (a : List Pr) : (Pr.mk o c l r a).cmp = c := rfl
theorem l_mk (o c : Int) (l r : Od) (a : List Pr) : (Pr.mk o c l r a).l = l := rfl
theorem r_mk (o c : Int) (l r : Od) (a : List Pr) : (Pr.mk o c l r a).r = r := rfl
theorem PBx.right {w : World} {g : Nat} {op cmp : Int} {l r : Od} {a : List Pr} {s : Value} (h : PBx w g (.mk op cmp l r a) s) (x : Od) :
    PBx (((((w.setCell ⟨g, 7, none⟩ (.int .i64 x.k)).setCell ⟨g, 8, none⟩ (.int .i64 x.i)).setCell ⟨g, 9, none⟩ (.int .i64 x.v.k)).setCell ⟨g, 10, none⟩ (.int .i64 x.v.n)).setCell ⟨g, 11, none⟩ (.string x.v.t)) g (.mk op cmp l x a) s := by
  obtain ⟨⟨hl, c0, c1, c2, c3, c4, c5, c6, c7, c8, c9, c10, c11, c12⟩, f⟩ := h
  simp only [Pr.op, Pr.cmp, Pr.l, Pr.r] at c0 c1 c2 c3 c4 c5 c6 c7 c8 c9 c10 c11
  exact ⟨⟨by simpa using hl, by simp only [Pr.op, Pr.cmp, Pr.l, Pr.r]; go_simp, by simp only [Pr.op, Pr.cmp, Pr.l, Pr.r]; go_simp, by simp only [Pr.op, Pr.cmp, Pr.l, Pr.r]; go_simp, by simp only [Pr.op, Pr.cmp, Pr.l, Pr.r]; go_simp, by simp only [Pr.op, Pr.cmp, Pr.l, Pr.r]; go_simp, by simp only [Pr.op, Pr.cmp, Pr.l, Pr.r]; go_simp, by simp only [Pr.op, Pr.cmp, Pr.l, Pr.r]; go_simp, by simp only [Pr.op, Pr.cmp, Pr.l, Pr.r]; go_simp, by simp only [Pr.op, Pr.cmp, Pr.l, Pr.r]; go_simp, by simp only [Pr.op, Pr.cmp, Pr.l, Pr.r]; go_simp, by simp only [Pr.op, Pr.cmp, Pr.l, Pr.r]; go_simp, by simp only [Pr.op, Pr.cmp, Pr.l, Pr.r]; go_simp, by go_simp⟩, fun o => by have := f o; go_simp⟩
theorem PBx.left {w : World} {g : Nat} {op cmp : Int} {l r : Od} {a : List Pr} {s : Value} (h : PBx w g (.mk op cmp l r a) s) (x : Od) :
    PBx (((((w.setCell ⟨g, 2, none⟩ (.int .i64 x.k)).setCell ⟨g, 3, none⟩ (.int .i64 x.i)).setCell ⟨g, 4, none⟩ (.int .i64 x.v.k)).setCell ⟨g, 5, none⟩ (.int .i64 x.v.n)).setCell ⟨g, 6, none⟩ (.string x.v.t)) g (.mk op cmp x r a) s := by
  obtain ⟨⟨hl, c0, c1, c2, c3, c4, c5, c6, c7, c8, c9, c10, c11, c12⟩, f⟩ := h
  simp only [Pr.op, Pr.cmp, Pr.l, Pr.r] at c0 c1 c2 c3 c4 c5 c6 c7 c8 c9 c10 c11
  exact ⟨⟨by simpa using hl, by simp only [Pr.op, Pr.cmp, Pr.l, Pr.r]; go_simp, by simp only [Pr.op, Pr.cmp, Pr.l, Pr.r]; go_simp, by simp only [Pr.op, Pr.cmp, Pr.l, Pr.r]; go_simp, by simp only [Pr.op, Pr.cmp, Pr.l, Pr.r]; go_simp, by simp only [Pr.op, Pr.cmp, Pr.l, Pr.r]; go_simp, by simp only [Pr.op, Pr.cmp, Pr.l, Pr.r]; go_simp, by simp only [Pr.op, Pr.cmp, Pr.l, Pr.r]; go_simp, by simp only [Pr.op, Pr.cmp, Pr.l, Pr.r]; go_simp, by simp only [Pr.op, Pr.cmp, Pr.l, Pr.r]; go_simp, by simp only [Pr.op, Pr.cmp, Pr.l, Pr.r]; go_simp, by simp only [Pr.op, Pr.cmp, Pr.l, Pr.r]; go_simp, by simp only [Pr.op, Pr.cmp, Pr.l, Pr.r]; go_simp, by go_simp⟩, fun o => by have := f o; go_simp⟩
theorem CaseAt.stored5 {w0 w : World} {b : Nat} {c : CaseId} (h0 : CaseAt w0 b c) (h : CaseAt w b c) {n o1 o2 o3 o4 o5 : Nat} (hn : w0.heap.size ≤ n) (v1 v2 v3 v4 v5 : Value) : CaseAt (((((w.setCell ⟨n, o1, none⟩ v1).setCell ⟨n, o2, none⟩ v2).setCell ⟨n, o3, none⟩ v3).setCell ⟨n, o4, none⟩ v4).setCell ⟨n, o5, none⟩ v5) b c :=
  h0.stored (h0.stored (h0.stored (h0.stored (h0.stored h hn _) hn _) hn _) hn _) hn _
theorem new5 {w w' : World} {r : Option Nat} (h : w.grownBy w' r) {n o1 o2 o3 o4 o5 : Nat} (hn : w.heap.size ≤ n) (v1 v2 v3 v4 v5 : Value) : w.grownBy (((((w'.setCell ⟨n, o1, none⟩ v1).setCell ⟨n, o2, none⟩ v2).setCell ⟨n, o3, none⟩ v3).setCell ⟨n, o4, none⟩ v4).setCell ⟨n, o5, none⟩ v5) r :=
  by_store_new (by_store_new (by_store_new (by_store_new (by_store_new h hn _) hn _) hn _) hn _) hn _
theorem wrap_dp {dp : Int} {m : Nat} (h : wrap64 (dp - 1) = (m : Int)) : IntKind.i64.wrap (dp - 1) = (m : Int) := by
  unfold wrap64 at h; simp [IntKind.wrap, IntKind.bits, IntKind.signed] at *; omega
theorem one_in {S S' : Nat → Prop} {w5 : World} {m : Nat} {p : Pr} {s : Value} {T : TypeId} (h : PrIn S w5 m s p.args) (hS : ∀ g, S g → S' g) (h5 : S' w5.heap.size) : PrIn S' (w5.alloc (pBlock p s T)) (m + 1) (.slice (some ⟨w5.heap.size, 0, none⟩) 1 1) [p] := by
  refine ⟨_, 1, rfl, by simp, .inr ⟨w5.heap.size, 0, rfl, by simp, h5, fun i hi => ?_⟩⟩
  obtain rfl : i = 0 := by simpa using hi
  have q := PBox.new w5 p s T
  exact ⟨s, ⟨q.c0, q.c1, q.c2, q.c3, q.c4, q.c5, q.c6, q.c7, q.c8, q.c9, q.c10, q.c11, q.c12⟩, (h.later ((Below.refl _ _).alloc (Nat.le_refl _) _)).mono fun g _ hg => hS g hg⟩
theorem PBx.args {w : World} {g : Nat} {p : Pr} {s : Value} (h : PBx w g p s) (s' : Value) : PBx (w.setCell ⟨g, 12, none⟩ s') g p s' := by
  obtain ⟨⟨hl, c0, c1, c2, c3, c4, c5, c6, c7, c8, c9, c10, c11, c12⟩, f⟩ := h
  exact ⟨⟨by simpa using hl, by go_simp, by go_simp, by go_simp, by go_simp, by go_simp, by go_simp, by go_simp, by go_simp, by go_simp, by go_simp, by go_simp, by go_simp, by go_simp⟩, fun o => by have := f o; go_simp⟩
/-- What Tree's step is handed for the trees below it. -/
def TreeAt (S : Nat → Prop) (b : Nat) (c : CaseId) (vc vp : Value) (cols par : List Int) (n : Nat) : Prop :=
  ∀ w, CaseAt w b c → IntsAt S w vc cols → IntsAt S w vp par → Calls Tryd.prog 32 #[.pointer (some ⟨b, 0, none⟩), vc, vp, .int .i64 n] w (GotTree b c cols par n w)
set_option maxHeartbeats 60000000 in
set_option maxRecDepth 100000 in
theorem tree_step (S : Nat → Prop) (b : Nat) (hS : ¬ S b) (c : CaseId) (vc vp : Value) (cols par : List Int) (hok : KindsOk cols) (hcl : cols.length ≤ 1000) (hpl : par.length ≤ 1000) (n : Nat) (hn : n ≤ 8)
    (ih : ∀ m, n = m + 1 → TreeAt S b c vc vp cols par m) : TreeAt S b c vc vp cols par n := by
  intro w hc hkc hkp
  obtain ⟨W, hW⟩ : ∃ W, W = w.alloc (.cells #[.int .i64 0, .int .i64 0, .int .i64 0, .int .i64 0, .int .i64 0, .int .i64 0, .string ⟨#[]⟩, .int .i64 0, .int .i64 0, .int .i64 0, .int .i64 0, .string ⟨#[]⟩, .slice none 0 0] 60) := ⟨_, rfl⟩
  have hal : w.grownBy W (none : Option Nat) := by rw [hW]; exact World.grownBy_alloc _ _ _
  have HIH := Lib.hid ih
  have HBA := Lib.hid hal
  have HWS : Hid (W.heap.size = w.heap.size + 1) := by show _ = _; rw [hW]; simp
  have HCI := Lib.hid hc
  have hcw := hc.grown hal
  have HBL : Hid (b < w.heap.size) := hc.lt
  have HRB : Hid (∀ wf, W.grownBy wf (some b) → PBx wf w.heap.size (.mk 0 0 zeroO zeroO []) (.slice none 0 0)) := fun wf hg => by
    have h := PBx.new w (.mk 0 0 zeroO zeroO []) (.slice none 0 0) 60
    have h' : PBx W w.heap.size (.mk 0 0 zeroO zeroO []) (.slice none 0 0) := by rw [hW]; exact h
    exact h'.by_ hg (by have := HBL.out; simp; omega)
  have hkc' : IntsAt S W vc cols := hkc.kept (kept_by hal (fun g h => by cases h))
  have hkp' : IntsAt S W vp par := hkp.kept (kept_by hal (fun g h => by cases h))
  have HKC := Lib.hid (fun wr (hg : W.grownBy wr (some b)) => hkc'.kept (kept_by hg (fun g hg' => by cases hg'; exact hS)))
  have HKP := Lib.hid (fun wr (hg : W.grownBy wr (some b)) => hkp'.kept (kept_by hg (fun g hg' => by cases hg'; exact hS)))
  obtain ⟨ka, kc, rfl, -⟩ := hkc.slice
  obtain ⟨pa, pc, rfl, -⟩ := hkp.slice
  have HOP := Lib.hid (fun k h3 h5 wr (hg : W.grownBy wr (some b)) (hcr : CaseAt wr b c) => operand_calls S b hS c (.slice ka cols.length kc) (.slice pa par.length pc) cols par k h3 h5 hcl hpl wr hcr (HKC.out wr hg) (HKP.out wr hg))
  have HTR : Hid (∀ m, n = m + 1 → ∀ wr, W.grownBy wr (some b) → CaseAt wr b c → Calls Tryd.prog 32 #[.pointer (some ⟨b, 0, none⟩), .slice ka cols.length kc, .slice pa par.length pc, .int .i64 m] wr (GotTree b c cols par m wr)) := fun m hm wr hg hcr => HIH.out m hm wr hcr (HKC.out wr hg) (HKP.out wr hg)
  have HCC : Hid (∀ wr, W.grownBy wr (some b) → ∀ q : Nat, q < cols.length → ∃ g o kk, ka = some ⟨g, o, none⟩ ∧ g < wr.heap.size ∧ wr.cell? ⟨g, o + q, none⟩ = some (.int .i64 kk) ∧ 3 ≤ kk ∧ kk ≤ 5) := fun wr hg q hq => by
    obtain ⟨g, o, h1, h2, -, h3⟩ := (HKC.out wr hg).get hq
    exact ⟨g, o, _, h1, h2, h3, hok _ (List.getElem_mem hq)⟩
  generalize hN : cols.length = N at hcl HOP HTR HCC ⊢
  generalize hM : par.length = M at hpl HOP HTR ⊢
  have HN := Lib.hid hN
  have HNL := Lib.hid hcl
  have HNN := Lib.hid hn
  have HI9 := Lib.hid (int_calls b c 9 (by omega) (by omega) W hcw)
  have HBW : Hid (W.grownBy W (some b)) := ⟨rfl, rfl, rfl, Nat.le_refl _, fun _ _ _ => rfl⟩
  generalize hdp : (n : Int) = dp
  have HDP := Lib.hid hdp
  have HW := Lib.hid hW
  clear hdp hc hkc hkp hkc' hkp' hN hM hW hal ih hok hcw hn hcl hpl HIH HKC HKP
  go_enter Tryd.func32, Tryd.ntmps32
  go_wp2_with fail
  rw [← HW.out]
  refine HI9.out.mono ?_
  rintro e w2 ⟨x, rfl, hx0, hx1, hc2, hby2⟩
  have HX := Lib.hid (And.intro hx0 hx1)
  have HC2 := Lib.hid hc2
  have HB2 := Lib.hid hby2
  clear hx0 hx1 hc2 hby2 HI9
  go_upto_region 2 with fail
  go_cut [16] from 17 to 106 (fun v w3 => ∃ q : Bool, v = .bool q ∧ (q = true → x = 0) ∧ CaseAt w3 b c ∧ W.grownBy w3 (some b))
  case first =>
    by_cases h0 : x = 0
    · subst h0
      have HB := Lib.hid (boolp_calls b c 2 (by omega) (by omega) w2 HC2.out)
      go_wp2_with fail
      refine HB.out.mono ?_
      rintro e w3 ⟨q, rfl, hc3, hby3⟩
      have HC3 := Lib.hid hc3
      have HB3 := Lib.hid (by_trans HB2.out hby3)
      clear hc3 hby3 HB
      go_wp2_with fail
      go_meet
      case rel => exact ⟨q, rfl, by simp, HC3.out, HB3.out⟩
    · have h0' : (x == 0) = false := by simpa using h0
      go_wp2_with fail
      go_meet
      case rel => exact ⟨false, rfl, fun h => (by cases h), HC2.out, HB2.out⟩
  case rest =>
    obtain ⟨q, rfl, hq, hc3, hby3⟩ := hcut
    obtain ⟨w3, rfl⟩ : ∃ w3 : World, w3 = wc := ⟨_, rfl⟩
    have HQ := Lib.hid hq
    have HC3 := Lib.hid hc3
    have HB3 := Lib.hid hby3
    clear hq hc3 hby3 HC2 HB2
    cases q
    · go_upto_region 4 with fail
      go_cut [27] from 28 to 106 (fun v w4 => ∃ q : Bool, v = .bool q ∧ (q = false → 6 ≤ x ∧ 0 < n) ∧ CaseAt w4 b c ∧ W.grownBy w4 (some b))
      case first =>
        by_cases h6 : x < 6
        · have h6' : decide (x < 6) = true := by simpa using h6
          go_wp2_with fail
          go_meet
          case rel => exact ⟨true, rfl, by simp, HC3.out, HB3.out⟩
        · have h6' : decide (x < 6) = false := by simpa using h6
          by_cases h1 : dp < 1
          · have h1' : decide (dp < 1) = true := by simpa using h1
            go_wp2_with fail
            go_meet
            case rel => exact ⟨true, rfl, by simp, HC3.out, HB3.out⟩
          · have h1' : decide (dp < 1) = false := by simpa using h1
            go_wp2_with fail
            go_meet
            case rel => exact ⟨false, rfl, fun _ => ⟨by omega, by have := HDP.out; omega⟩, HC3.out, HB3.out⟩
      case rest =>
        obtain ⟨q, rfl, hq4, hc4, hby4⟩ := hcut
        obtain ⟨w4, rfl⟩ : ∃ w4 : World, w4 = wc := ⟨_, rfl⟩
        have HQ4 := Lib.hid hq4
        have HC4 := Lib.hid hc4
        have HB4 := Lib.hid hby4
        clear hq4 hc4 hby4 HC3 HB3
        cases q
        · clear HQ
          obtain ⟨hx6, hn0⟩ := HQ4.out rfl
          obtain ⟨m, rfl⟩ : ∃ m, n = m + 1 := ⟨n - 1, by omega⟩
          have hwd : wrap64 (dp - 1) = (m : Int) := by have := HDP.out; have := HNN.out; rw [wrap_i64 (by omega) (by omega)]; omega
          have HTM := Lib.hid (HTR.out m rfl)
          have HWD := Lib.hid hwd
          clear hn0
          by_cases h6 : x = 6
          · subst h6
            have HT := Lib.hid (HTM.out w4 HB4.out HC4.out)
            clear hx6
            go_wp2_with fail
            refine HT.out.mono ?_
            rintro e w5 ⟨p, s, rfl, hps, htok, hc5, hby5⟩
            obtain ⟨sa, sc, rfl, hsl⟩ := hps.shape
            obtain ⟨w6, hw6⟩ : ∃ w6, w6 = w5.alloc (pBlock p (.slice sa p.args.length sc) 60) := ⟨_, rfl⟩
            have hal6 : ∀ r, w5.grownBy w6 r := fun r => by rw [hw6]; exact World.grownBy_alloc _ _ _
            have HC6 : Hid (CaseAt w6 b c) := hc5.grown (hal6 none)
            have HB6 : Hid (W.grownBy w6 (some b)) := by_trans (by_trans HB4.out hby5) (hal6 _)
            have HP6 : Hid (PrIn (fun g => w.heap.size < g) w6 (m + 1) (.slice (some ⟨w5.heap.size, 0, none⟩) 1 1) [p]) := by
              have h1 := HWS.out
              have h2 := HB4.out.size
              have h3 := hby5.size
              rw [hw6]
              exact one_in hps (fun g hg => by omega) (by omega)
            have HOK : Hid (TreeOk cols par (m + 1) (.mk 6 0 zeroO zeroO [p])) := TreeOk.node (fun q hq => by obtain rfl : q = p := (by simpa using hq); exact htok) (.inl ⟨rfl, rfl⟩) (by simp)
            obtain ⟨⟨l, c0, c1, c2, c3, c4, c5, c6, c7, c8, c9, c10, c11, c12⟩, f⟩ := HRB.out w6 HB6.out
            clear hps hsl htok hc5 hby5 HT hal6 HC4 HB4
            subst hw6
            simp only [op_mk, cmp_mk, l_mk, r_mk, zeroO, nilV] at c0 c1 c2 c3 c4 c5 c6 c7 c8 c9 c10 c11
            go_wp2
            exact bodyPost_ret (v := (Pr.mk 6 0 zeroO zeroO [p]).val (.slice (some ⟨w5.heap.size, 0, none⟩) 1 1)) (by simp [results, Tryd.results32, go_sem, Pr.val, op_mk, cmp_mk, l_mk, r_mk, zeroO, nilV, c0, c1, c2, c3, c4, c5, c6, c7, c8, c9, c10, c11, c12, l]; try rfl) rfl
              (have h := fin_tree HCI.out (Nat.le_refl _) HC6.out (by_trans (by_some HBA.out _) HB6.out) HP6.out _ _ _ _ _ _ _ _ _ _ _ _ _
              ⟨.mk 6 0 zeroO zeroO [p], .slice (some ⟨w5.heap.size, 0, none⟩) 1 1, rfl, h.1, HOK.out, h.2.1, h.2.2⟩)
          · have h6' : (x == 6) = false := by simpa using h6
            obtain ⟨op, hop⟩ : ∃ op : Int, op = x - 3 := ⟨_, rfl⟩
            have hxx := HX.out
            have HOPX : Hid (op = 4 ∨ op = 5) := by show _ ∨ _; omega
            have hw1 : wrap64 (4 + x) = 4 + x := wrap_i64 (by omega) (by omega)
            have hw2 : wrap64 (4 + x - 7) = op := by rw [wrap_i64 (by omega) (by omega)]; omega
            obtain ⟨w5, hw5⟩ : ∃ w5, w5 = w4.alloc (.cells #[.int .i64 op, .int .i64 0, .int .i64 0, .int .i64 0, .int .i64 0, .int .i64 0, .string ⟨#[]⟩, .int .i64 0, .int .i64 0, .int .i64 0, .int .i64 0, .string ⟨#[]⟩, .slice none 0 0] 60) := ⟨_, rfl⟩
            have hp5 : PBx w5 w4.heap.size (.mk op 0 zeroO zeroO []) (.slice none 0 0) := by rw [hw5]; exact PBx.new w4 (.mk op 0 zeroO zeroO []) (.slice none 0 0) 60
            have hal5 : ∀ r, w4.grownBy w5 r := fun r => by rw [hw5]; exact World.grownBy_alloc _ _ _
            have HP5 := Lib.hid hp5
            have HC5 : Hid (CaseAt w5 b c) := HC4.out.grown (hal5 none)
            have HB5 : Hid (W.grownBy w5 (some b)) := by_trans HB4.out (hal5 _)
            have HG : Hid (W.heap.size ≤ w4.heap.size ∧ b < w4.heap.size) := ⟨HB4.out.size, HC4.out.lt⟩
            have HI := Lib.hid (int_calls b c 3 (by omega) (by omega) w5 HC5.out)
            have HW5 := Lib.hid hw5
            clear hxx hx6 hp5 hal5 hw5 hop
            go_wp2_with fail
            rw [← HW5.out]
            generalize w4.heap.size = g at HP5 HG ⊢
            refine HI.out.mono ?_
            rintro e w6 ⟨y, rfl, hy0, hy1, hc6, hby6⟩
            have HY : Hid (0 ≤ y ∧ y < 3) := ⟨hy0, hy1⟩
            have HC6 := Lib.hid hc6
            have HB6 := Lib.hid (by_trans HB5.out hby6)
            have HP6 := Lib.hid (HP5.out.by_ hby6 (by have := HG.out.2; simp; omega))
            have HCW : Hid (CaseAt W b c) := HCI.out.grown HBA.out
            clear hy0 hy1 hc6 hby6 HI HW5 HP5 HC5 HB5 HC4 HB4 hw1 hw2
            obtain ⟨i, hi, hz, hsz, hby⟩ := info_parts infoR
            have HII := Lib.hid hi
            have HZ := Lib.hid hz
            have HSZ := Lib.hid hsz
            have HBY := Lib.hid hby
            clear hi hz hsz hby
            go_wp2_with fail
            go_loopw [13] (fun v wr => ∃ (j : Nat) (ii : Int) (qs : List (Pr × Value)) (sl : Value), v = .int .i64 ii ∧ ii = (j : Int) - 1 ∧ qs.length + j ≤ 3 ∧ OwnR (g + 1) m wr sl qs ∧ (∀ q ∈ qs, TreeOk cols par m q.1) ∧ PBx wr g (.mk op 0 zeroO zeroO []) sl ∧ CaseAt wr b c ∧ W.grownBy wr (some b)) (fun v _ => (intOf v + 1).toNat)
            case atStart =>
              have hy := HY.out
              exact ⟨(y + 1).toNat, y, [], _, rfl, by omega, by simp; omega, OwnR.nil _ _ _, by simp, HP6.out, HC6.out, HB6.out⟩
            case round =>
              clear HP6 HC6 HB6
              obtain ⟨j, ii, qs, sl, rfl, hii, hlen, hown, htoks, hpb, hcr, hbr⟩ := hrel
              obtain ⟨wo, rfl⟩ : ∃ wo : World, wo = wr := ⟨_, rfl⟩
              obtain ⟨slA, slC, rfl⟩ := ownR_slice hown
              have HIIJ := Lib.hid hii
              have HLEN := Lib.hid hlen
              have HOW := Lib.hid hown
              have HTO := Lib.hid htoks
              have HPB := Lib.hid hpb
              have HCR := Lib.hid hcr
              have HBR := Lib.hid hbr
              clear hlen hown htoks hpb hcr hbr
              by_cases hj : j = 0
              · have hge : decide (0 ≤ ii) = false := by simp; omega
                have hge' : decide (ii ≥ 0) = false := by simp; omega
                have hgen : ¬ 0 ≤ ii := by omega
                have HPZ : Hid (PrIn (fun g => w.heap.size < g) wo (m + 1) (.slice slA qs.length slC) (qs.map (·.1))) := (HOW.out.at_ (by have := HLEN.out; omega)).mono fun g' _ h => by have h1 := HWS.out; have h2 := HG.out.1; have : g + 1 ≤ g' := h; omega
                have HOK : Hid (TreeOk cols par (m + 1) (.mk op 0 zeroO zeroO (qs.map (·.1)))) := TreeOk.node (fun q hq => by obtain ⟨q', hq', rfl⟩ := List.mem_map.1 hq; exact HTO.out q' hq') (.inr HOPX.out) (by rw [List.length_map]; have := HLEN.out; omega)
                obtain ⟨⟨l, c0, c1, c2, c3, c4, c5, c6, c7, c8, c9, c10, c11, c12⟩, f⟩ := HRB.out wo HBR.out
                obtain ⟨⟨bl, b0, b1, b2, b3, b4, b5, b6, b7, b8, b9, b10, b11, b12⟩, bf⟩ := HPB.out
                clear hii hj HOW HTO HPB HIIJ HLEN hwd
                simp only [op_mk, cmp_mk, l_mk, r_mk, zeroO, nilV] at c0 c1 c2 c3 c4 c5 c6 c7 c8 c9 c10 c11 b0 b1 b2 b3 b4 b5 b6 b7 b8 b9 b10 b11
                go_wp2
                exact bodyPost_ret (v := (Pr.mk op 0 zeroO zeroO (qs.map (·.1))).val (.slice slA qs.length slC)) (by simp [results, Tryd.results32, go_sem, Pr.val, op_mk, cmp_mk, l_mk, r_mk, zeroO, nilV, c0, c1, c2, c3, c4, c5, c6, c7, c8, c9, c10, c11, c12, l]; try rfl) rfl
                  (have h := fin_tree HCI.out (Nat.le_refl _) HCR.out (by_trans (by_some HBA.out _) HBR.out) HPZ.out _ _ _ _ _ _ _ _ _ _ _ _ _
                  ⟨.mk op 0 zeroO zeroO (qs.map (·.1)), .slice slA qs.length slC, rfl, h.1, HOK.out, h.2.1, h.2.2⟩)
              · have hge : decide (0 ≤ ii) = true := by simp; omega
                have hge' : decide (ii ≥ 0) = true := by simp; omega
                have hgen : 0 ≤ ii := by omega
                have HJ := Lib.hid hj
                have hdw : wo.grownBy wo.drew (none : Option Nat) := ⟨rfl, rfl, rfl, Nat.le_refl _, fun _ _ _ => rfl⟩
                have hcd : CaseAt wo.drew b c := HCR.out.grown hdw
                have HBD : Hid (W.grownBy wo.drew (some b)) := by_trans HBR.out (by_some hdw _)
                have HCD := Lib.hid hcd
                have HDW := Lib.hid hdw
                have HT := Lib.hid (HTM.out wo.drew HBD.out hcd)
                have hm12 := HPB.out.b.c12
                have hfz := HPB.out.f 12
                have hgl := HPB.out.b.l
                have HNG : Hid (some g ≠ (Value.slice slA qs.length slC).ownBlock) := by
                  show _ ≠ _
                  intro e
                  have := (HOW.out.own.lt _ e.symm).1
                  omega
                clear hii hj hcd hdw hwd
                go_wp2_with fail
                refine wp_region_noPanic ?_
                refine wp_region_X (fun w' => w'.cell? ⟨g, 12, none⟩ = some (.slice slA qs.length slC)) 11 (by kernel_rfl) ?_ (fun hHeld => ?_)
                · (try dsimp only); go_keep
                try simp only [Act.put, List.setIfInBounds_toArray, List.set_cons_zero, List.set_cons_succ]
                refine wpX_take 0 (v := ?_) rfl (by kernel_rfl) (by kernel_rfl) (by kernel_rfl) (by kernel_rfl) (by kernel_rfl) (fun _ _ _ h => h) (Or.inl ⟨by rfl, ?_⟩) (by assumption) ?_
                rotate_left
                · intro w hSw; (try dsimp only at hSw); go_simp; try with_reducible rfl
                try simp only [Act.put, List.setIfInBounds_toArray, List.set_cons_zero, List.set_cons_succ]
                refine wpX_take 1 (v := ?_) rfl (by kernel_rfl) (by kernel_rfl) (by kernel_rfl) (by kernel_rfl) (by kernel_rfl) (fun _ _ _ h => h) (Or.inl ⟨by rfl, ?_⟩) (by assumption) ?_
                rotate_left
                · intro w hSw; (try dsimp only at hSw); go_simp; try with_reducible rfl
                try simp only [Act.put, List.setIfInBounds_toArray, List.set_cons_zero, List.set_cons_succ]
                refine wpX_take 2 (v := ?_) rfl (by kernel_rfl) (by kernel_rfl) (by kernel_rfl) (by kernel_rfl) (by kernel_rfl) (fun _ _ _ h => h) (Or.inl ⟨by rfl, ?_⟩) (by assumption) ?_
                rotate_left
                · intro w hSw; (try dsimp only at hSw); go_simp; try with_reducible rfl
                try simp only [Act.put, List.setIfInBounds_toArray, List.set_cons_zero, List.set_cons_succ]
                refine wpX_take 3 (v := ?_) rfl (by kernel_rfl) (by kernel_rfl) (by kernel_rfl) (by kernel_rfl) (by kernel_rfl) (fun _ _ _ h => h) (Or.inl ⟨by rfl, ?_⟩) (by assumption) ?_
                rotate_left
                · intro w hSw; (try dsimp only at hSw); go_simp; try with_reducible rfl
                try simp only [Act.put, List.setIfInBounds_toArray, List.set_cons_zero, List.set_cons_succ]
                refine wpX_take 4 (v := ?_) rfl (by kernel_rfl) (by kernel_rfl) (by kernel_rfl) (by kernel_rfl) (by kernel_rfl) (fun _ _ _ h => h) (Or.inl ⟨by rfl, ?_⟩) (by assumption) ?_
                rotate_left
                · intro w hSw; (try dsimp only at hSw); go_simp; try with_reducible rfl
                try simp only [Act.put, List.setIfInBounds_toArray, List.set_cons_zero, List.set_cons_succ]
                refine wpX_take 5 (v := ?_) rfl (by kernel_rfl) (by kernel_rfl) (by kernel_rfl) (by kernel_rfl) (by kernel_rfl) (fun _ _ _ h => h) (Or.inl ⟨by rfl, ?_⟩) (by assumption) ?_
                rotate_left
                · intro w hSw; (try dsimp only at hSw); go_simp; try with_reducible rfl
                try simp only [Act.put, List.setIfInBounds_toArray, List.set_cons_zero, List.set_cons_succ]
                refine wpX_take 6 (v := ?_) rfl (by kernel_rfl) (by kernel_rfl) (by kernel_rfl) (by kernel_rfl) (by kernel_rfl) (fun _ _ _ h => h) (Or.inl ⟨by rfl, ?_⟩) (by assumption) ?_
                rotate_left
                · intro w hSw; (try dsimp only at hSw); go_simp; try with_reducible rfl
                try simp only [Act.put, List.setIfInBounds_toArray, List.set_cons_zero, List.set_cons_succ]
                refine wpX_one 7 (by kernel_rfl) rfl (fun K hK => ?_)
                go_simp
                go_at_call 32
                rw [wrap_dp HWD.out]
                refine HT.out.mono ?_
                rintro e w7 ⟨p, s, rfl, hps, htok, hc7, hby7⟩
                obtain ⟨sa, sc, rfl, hsl⟩ := hps.shape
                have hgb : (some b : Option Nat) ≠ some g := by have := HG.out.2; simp; omega
                have z12 : w7.cell? ⟨g, 12, none⟩ = some (.slice slA qs.length slC) := hby7.cell (by go_simp) (Ne.symm hgb)
                have HPS := Lib.hid hps
                have HTK := Lib.hid htok
                have HC7 := Lib.hid hc7
                have HBY7 : Hid (wo.grownBy w7 (some b)) := by_trans (by_some HDW.out _) hby7
                have HP7 := Lib.hid (HPB.out.by_ HBY7.out hgb)
                have hfz7 := HP7.out.f 12
                have HS7 : Hid (g + 1 ≤ w7.heap.size) := HP7.out.b.l
                have HO7 := Lib.hid (HOW.out.far HBY7.out (by have := HG.out.2; omega))
                clear hps hsl htok hc7 hby7 HT hfz hgb hm12
                refine hK.out _ _ ?_ (fun hHeld => ?_)
                · (try dsimp only); go_keep
                clear hK K
                try simp only [Act.put, List.setIfInBounds_toArray, List.set_cons_zero, List.set_cons_succ]
                refine wpX_one 8 (by kernel_rfl) rfl (fun K hK => ?_)
                go_simp
                refine hK.out _ _ ?_ (fun hHeld => ?_)
                · (try dsimp only); go_keep
                clear hK K
                try simp only [Act.put, List.setIfInBounds_toArray, List.set_cons_zero, List.set_cons_succ]
                refine wpX_one 9 (by kernel_rfl) rfl (fun K hK => ?_)
                refine step_append_lies _ rfl _ _ 50 rfl (g + 1) 60 i (.agg #[.int .i64 0, .int .i64 0, .int .i64 0, .int .i64 0, .int .i64 0, .int .i64 0, .string ⟨#[]⟩, .int .i64 0, .int .i64 0, .int .i64 0, .int .i64 0, .string ⟨#[]⟩, .slice none 0 0]) 13 136 Tryd.underlying50 HII.out HZ.out HSZ.out HBY.out rfl (by decide) (.slice slA qs.length slC) qs.length (cellsR qs) rfl (HO7.out.own.alloc _) ⟨w7.heap.size, 0, none⟩ 1 1 (cellsO p (.slice sa p.args.length sc)) rfl rfl (thirteen_new w7 _ _ _ _ _ _ _ _ _ _ _ _ _ _ _ rfl) (by intro u hu; simp [cellsO] at hu; rcases hu with rfl | rfl | rfl | rfl | rfl | rfl | rfl | rfl | rfl | rfl | rfl | rfl | rfl <;> rfl) (by decide) (by have := HLEN.out; unfold maxLen; omega) (by have := HLEN.out; omega) (by have := HS7.out; simp; omega) (w7.heap.size + 1) (by simp) ?_
                intro g9 c9 w9 hown9 hgrow9 hat9 hlt9
                have n12 : w9.cell? ⟨g, 12, none⟩ = some (.slice slA qs.length slC) := hgrow9.cell (by go_simp) HNG.out
                have HO9 := Lib.hid hown9
                have HG9 := Lib.hid hgrow9
                have HA9 := Lib.hid hat9
                have HP9 : Hid (PBx w9 g (.mk op 0 zeroO zeroO []) (.slice slA qs.length slC)) := (HP7.out.by_ (World.grownBy_alloc w7 _ none) (by simp)).by_ hgrow9 (Ne.symm HNG.out)
                have nf := HP9.out.f 12
                have nl := HP9.out.b.l
                clear hown9 hgrow9 hat9 hlt9 hfz7 z12
                refine hK.out _ _ ?_ (fun hHeld => ?_)
                · (try dsimp only); go_keep
                clear hK K
                try simp only [Act.put, List.setIfInBounds_toArray, List.set_cons_zero, List.set_cons_succ]
                try simp only [Act.put, List.setIfInBounds_toArray, List.set_cons_zero, List.set_cons_succ]
                refine wpX_take 10 (v := ?_) rfl (by kernel_rfl) (by kernel_rfl) (by kernel_rfl) (by kernel_rfl) (by kernel_rfl) (fun _ _ _ h => h) (Or.inl ⟨by rfl, ?_⟩) (by assumption) ?_
                rotate_left
                · intro w hSw; (try dsimp only at hSw); go_simp; try with_reducible rfl
                try simp only [Act.put, List.setIfInBounds_toArray, List.set_cons_zero, List.set_cons_succ]
                refine wpX_last 11 (by kernel_rfl) rfl rfl (by kernel_rfl) (fun K hK => ?_)
                go_simp
                refine hK.out _ _ ?_
                clear hK K
                refine NoPanic.normal ?_
                have hl9 : (Value.slice (some ⟨g9, 0, none⟩) (qs.length + 1) c9).ownBlock = (Value.slice slA qs.length slC).ownBlock ∨ ∃ g', (Value.slice (some ⟨g9, 0, none⟩) (qs.length + 1) c9).ownBlock = some g' ∧ w7.heap.size < g' := by
                  rcases HA9.out with e | e
                  · exact .inl e.symm
                  · exact .inr ⟨g9, rfl, by omega⟩
                have hor := HOW.out.snoc (b := b) (H := 0) (p := p) (s := .slice sa p.args.length sc) (by have := HG.out.2; omega) (by have := HPB.out.b.l; omega) HBY7.out HPS.out HG9.out HO9.out hl9
                have hc9 : CaseAt w9 b c := HCW.out.kept (HC7.out.grown (World.grownBy_alloc w7 _ none)) HG9.out (fun k e => by have := (HOW.out.own.lt k e).1; have := HG.out.1; omega)
                have hb9 : W.grownBy w9 (some b) := by_own (by_trans (by_trans HBR.out HBY7.out) (World.grownBy_alloc w7 _ _)) HG9.out (fun k e => by have := (HOW.out.own.lt k e).1; have := HG.out.1; omega)
                have HORZ := Lib.hid (hor.far (by_store (w := w9) (b := g) (o := 12) (v := .slice (some ⟨g9, 0, none⟩) (qs.length + 1) c9)) (Nat.lt_succ_self g))
                have HPZ := Lib.hid (HP9.out.args (.slice (some ⟨g9, 0, none⟩) (qs.length + 1) c9))
                have HCZ : Hid (CaseAt (w9.setCell ⟨g, 12, none⟩ (.slice (some ⟨g9, 0, none⟩) (qs.length + 1) c9)) b c) := HCI.out.stored hc9 (by have := HG.out.1; have := HWS.out; omega) _
                have HBZ : Hid (W.grownBy (w9.setCell ⟨g, 12, none⟩ (.slice (some ⟨g9, 0, none⟩) (qs.length + 1) c9)) (some b)) := by_store_new hb9 HG.out.1 _
                generalize w9.setCell ⟨g, 12, none⟩ (.slice (some ⟨g9, 0, none⟩) (qs.length + 1) c9) = wz at HORZ HPZ HCZ HBZ ⊢
                have hwk : wrap64 (ii - 1) = ii - 1 := wrap_i64 (by omega) (by have := HIIJ.out; have := HLEN.out; omega)
                clear hor hc9 hb9 hl9 n12 nf nl hHeld hge hge' hgen
                go_wp2_with fail
                generalize wrap64 (ii - 1) = zz at hwk ⊢
                subst hwk
                have hii := HIIJ.out
                have hjj := HJ.out
                have hll := HLEN.out
                have htt : ∀ q ∈ qs ++ [(p, .slice sa p.args.length sc)], TreeOk cols par m q.1 := fun q hq => by
                  rcases List.mem_append.1 hq with h | h
                  · exact HTO.out q h
                  · rw [List.mem_singleton] at h; subst h; exact HTK.out
                have hln : (qs ++ [(p, Value.slice sa p.args.length sc)]).length = qs.length + 1 := by simp
                exact ⟨⟨j - 1, ii - 1, qs ++ [(p, .slice sa p.args.length sc)], _, by go_num, by omega, by omega, HORZ.out, htt, HPZ.out, HCZ.out, HBZ.out⟩, by simp [intOf]; omega⟩
        · clear HQ HQ4
          go_upto_if 36 with fail
          go_cut [10] from 34 to 106 (fun v w5 => ∃ k : Int, v = .int .i64 k ∧ 3 ≤ k ∧ k ≤ 5 ∧ CaseAt w5 b c ∧ W.grownBy w5 (some b))
          case first =>
            by_cases h0 : N = 0
            · have d0 : decide ((0 : Int) < (N : Int)) = false := by simp; omega
              have d0' : decide (0 < N) = false := by simp; omega
              have d1 : ¬ 0 < N := by omega
              go_wp2_with fail
              go_meet
              case rel => exact ⟨4, rfl, by omega, by omega, HC4.out, HB4.out⟩
            · have d0 : decide ((0 : Int) < (N : Int)) = true := by simp; omega
              have d0' : decide (0 < N) = true := by simp; omega
              have d1 : 0 < N := by omega
              have HI := Lib.hid (int_calls b c (N : Int) (by omega) (by have := HNL.out; omega) w4 HC4.out)
              go_wp2_with fail
              refine HI.out.mono ?_
              rintro e w5 ⟨y, rfl, hy0, hy1, hc5, hby5⟩
              have HC5 := Lib.hid hc5
              have HB5 := Lib.hid (by_trans HB4.out hby5)
              obtain ⟨j, rfl⟩ : ∃ j : Nat, y = j := ⟨y.toNat, by omega⟩
              have hj : j < N := by omega
              obtain ⟨g, o, kk, rfl, hgl, hcell, hk3, hk5⟩ := HCC.out w5 HB5.out j hj
              have hj2 : (j : Int) < (N : Int) := by omega
              clear hc5 hby5 HI
              go_wp2_with fail
              go_meet
              case rel => exact ⟨kk, rfl, hk3, hk5, HC5.out, HB5.out⟩
          case rest =>
            obtain ⟨k, rfl, hk3, hk5, hc5, hby5⟩ := hcut
            obtain ⟨w5, rfl⟩ : ∃ w5 : World, w5 = wc := ⟨_, rfl⟩
            have HK := Lib.hid (And.intro hk3 hk5)
            have HC5 := Lib.hid hc5
            have HB5 := Lib.hid hby5
            have HI := Lib.hid (int_calls b c 6 (by omega) (by omega) w5 hc5)
            clear hk3 hk5 hc5 hby5 HC4 HB4
            go_wp2_with fail
            refine HI.out.mono ?_
            rintro e w6 ⟨y, rfl, hy0, hy1, hc6, hby6⟩
            have HC6 := Lib.hid hc6
            have HB6 := Lib.hid (by_trans HB5.out hby6)
            have HY : Hid (1 ≤ 1 + y ∧ 1 + y ≤ 6) := by show _ ∧ _; omega
            have hwk : wrap64 (1 + y) = 1 + y := wrap_i64 (by omega) (by omega)
            have HO := Lib.hid (HOP.out k HK.out.1 HK.out.2 w6 HB6.out HC6.out)
            clear hc6 hby6 HI hy0 hy1 HC5 HB5
            go_wp2_with fail
            refine HO.out.mono ?_
            rintro e w7 ⟨⟨lk, li, ⟨lvk, lvn, lvt⟩⟩, rfl, hkl, hc7, hby7⟩
            have HKL := Lib.hid hkl
            have HC7 := Lib.hid hc7
            have HB7 := Lib.hid (by_trans HB6.out hby7)
            have HV := Lib.hid (caseValueK_calls b c k HK.out.1 HK.out.2 w7 hc7)
            clear hkl hc7 hby7 HO HC6 HB6
            go_wp2_with fail
            refine HV.out.mono ?_
            rintro e w8 ⟨⟨vk, vn, vt⟩, rfl, hvk, hval, hnum, hc8, hby8⟩
            have HKR : Hid (kindO cols par ⟨3, 0, ⟨vk, vn, vt⟩⟩ = k) := kind_val hvk hval HK.out.1
            have HC8 := Lib.hid hc8
            have HB8 := Lib.hid (by_trans HB7.out hby8)
            obtain ⟨w9, hw9⟩ : ∃ w9, w9 = w8.alloc (.cells #[.int .i64 3, .int .i64 (1 + y), .int .i64 lk, .int .i64 li, .int .i64 lvk, .int .i64 lvn, .string lvt, .int .i64 3, .int .i64 0, .int .i64 vk, .int .i64 vn, .string vt, .slice none 0 0] 60) := ⟨_, rfl⟩
            have HPB : Hid (PBx w9 w8.heap.size (.mk 3 (1 + y) ⟨lk, li, ⟨lvk, lvn, lvt⟩⟩ ⟨3, 0, ⟨vk, vn, vt⟩⟩ []) (.slice none 0 0)) := by
              show PBx _ _ _ _
              rw [hw9]
              exact PBx.new w8 (.mk 3 (1 + y) ⟨lk, li, ⟨lvk, lvn, lvt⟩⟩ ⟨3, 0, ⟨vk, vn, vt⟩⟩ []) (.slice none 0 0) 60
            have hal9 : ∀ r, w8.grownBy w9 r := fun r => by rw [hw9]; exact World.grownBy_alloc _ _ _
            have HC9 : Hid (CaseAt w9 b c) := hc8.grown (hal9 none)
            have HB9 : Hid (W.grownBy w9 (some b)) := by_trans HB8.out (hal9 _)
            have HG9 : Hid (W.heap.size ≤ w8.heap.size ∧ b < w8.heap.size) := ⟨HB8.out.size, hc8.lt⟩
            have HBo := Lib.hid (boolp_calls b c 3 (by omega) (by omega) w9 HC9.out)
            have HW9 := Lib.hid hw9
            clear hvk hval hnum hc8 hby8 HV HC7 HB7 hal9 hw9
            go_wp2_with fail
            rw [← HW9.out]
            generalize w8.heap.size = g at HPB HG9 ⊢
            refine HBo.out.mono ?_
            rintro e wa ⟨q1, rfl, hca, hbya⟩
            have HCA := Lib.hid hca
            have HBA2 := Lib.hid (by_trans HB9.out hbya)
            have HPA := Lib.hid (HPB.out.by_ hbya (by have := HG9.out.2; simp; omega))
            clear hca hbya HPB HBo HC9 HB9 HC8 HB8 HW9
            go_upto_if 58 with fail
            go_cut [] from 59 to 106 (fun wx => ∃ (cmp : Int) (l r : Od), PBx wx g (.mk 3 cmp l r []) (.slice none 0 0) ∧ 1 ≤ cmp ∧ cmp ≤ 6 ∧ kindO cols par l = k ∧ kindO cols par r = k ∧ CaseAt wx b c ∧ W.grownBy wx (some b))
            case first =>
              cases q1
              · go_wp2_with fail
                go_meet
                case rel => exact ⟨_, _, _, HPA.out, HY.out.1, HY.out.2, HKL.out, HKR.out, HCA.out, HBA2.out⟩
              · have HO := Lib.hid (HOP.out k HK.out.1 HK.out.2 wa HBA2.out HCA.out)
                go_wp2_with fail
                refine HO.out.mono ?_
                rintro e wb ⟨⟨rk, ri, ⟨rvk, rvn, rvt⟩⟩, rfl, hkr, hcb, hbyb⟩
                have HKR2 := Lib.hid hkr
                have HCB := Lib.hid hcb
                have HBB := Lib.hid (by_trans HBA2.out hbyb)
                have HPB := Lib.hid (HPA.out.by_ hbyb (by have := HG9.out.2; simp; omega))
                obtain ⟨⟨l, b0, b1, b2, b3, b4, b5, b6, b7, b8, b9, b10, b11, b12⟩, f⟩ := HPB.out
                clear hkr hcb hbyb HO b0 b1 b2 b3 b4 b5 b6 b12
                simp only [r_mk] at b7 b8 b9 b10 b11
                go_wp2_with fail
                go_meet
                case rel => exact ⟨_, _, ⟨rk, ri, ⟨rvk, rvn, rvt⟩⟩, HPB.out.right ⟨rk, ri, ⟨rvk, rvn, rvt⟩⟩, HY.out.1, HY.out.2, HKL.out, HKR2.out, HCI.out.stored5 HCB.out (by have := HG9.out.1; have := HWS.out; omega) _ _ _ _ _, new5 HBB.out HG9.out.1 _ _ _ _ _⟩
            case rest =>
              obtain ⟨cmp, lo, ro, hp, hm1, hm2, hkl, hkr, hcc, hbyc⟩ := hcut
              obtain ⟨wd, rfl⟩ : ∃ wd : World, wd = wc := ⟨_, rfl⟩
              have HM := Lib.hid (And.intro hm1 (And.intro hm2 (And.intro hkl hkr)))
              have HP := Lib.hid hp
              have HCC' := Lib.hid hcc
              have HBC := Lib.hid hbyc
              have HBo := Lib.hid (boolp_calls b c 6 (by omega) (by omega) wd hcc)
              clear hp hm1 hm2 hkl hkr hcc hbyc HPA HCA HBA2 HKL HKR HY hwk
              go_wp2_with fail
              refine HBo.out.mono ?_
              rintro e we ⟨q2, rfl, hce, hbye⟩
              have HCE := Lib.hid hce
              have HBE := Lib.hid (by_trans HBC.out hbye)
              have HPE := Lib.hid (HP.out.by_ hbye (by have := HG9.out.2; simp; omega))
              clear hce hbye HBo HP HCC' HBC
              go_upto_if 66 with fail
              go_cut [] from 67 to 106 (fun wx => ∃ (cmp : Int) (l r : Od), PBx wx g (.mk 3 cmp l r []) (.slice none 0 0) ∧ 1 ≤ cmp ∧ cmp ≤ 6 ∧ kindO cols par l = k ∧ kindO cols par r = k ∧ CaseAt wx b c ∧ W.grownBy wx (some b))
              case first =>
                cases q2
                · go_wp2_with fail
                  go_meet
                  case rel => exact ⟨_, _, _, HPE.out, HM.out.1, HM.out.2.1, HM.out.2.2.1, HM.out.2.2.2, HCE.out, HBE.out⟩
                · obtain ⟨lk, li, ⟨lvk, lvn, lvt⟩⟩ := lo
                  obtain ⟨rk, ri, ⟨rvk, rvn, rvt⟩⟩ := ro
                  obtain ⟨⟨l, b0, b1, b2, b3, b4, b5, b6, b7, b8, b9, b10, b11, b12⟩, f⟩ := HPE.out
                  clear b0 b1 b12
                  simp only [op_mk, cmp_mk, l_mk, r_mk] at b2 b3 b4 b5 b6 b7 b8 b9 b10 b11
                  go_wp2_with fail
                  go_meet
                  case rel => exact ⟨_, ⟨rk, ri, ⟨rvk, rvn, rvt⟩⟩, ⟨lk, li, ⟨lvk, lvn, lvt⟩⟩, (HPE.out.left ⟨rk, ri, ⟨rvk, rvn, rvt⟩⟩).right ⟨lk, li, ⟨lvk, lvn, lvt⟩⟩, HM.out.1, HM.out.2.1, HM.out.2.2.2, HM.out.2.2.1, HCI.out.stored5 (HCI.out.stored5 HCE.out (by have := HG9.out.1; have := HWS.out; omega) _ _ _ _ _) (by have := HG9.out.1; have := HWS.out; omega) _ _ _ _ _, new5 (new5 HBE.out HG9.out.1 _ _ _ _ _) HG9.out.1 _ _ _ _ _⟩
              case rest =>
                obtain ⟨cmp, lo, ro, hp, hm1, hm2, hkl, hkr, hcc, hbyc⟩ := hcut
                obtain ⟨wf, rfl⟩ : ∃ wf : World, wf = wc := ⟨_, rfl⟩
                have HCF := Lib.hid hcc
                have HBF := Lib.hid hbyc
                have HOKL := Lib.hid (TreeOk.leaf hm1 hm2 hkl hkr HK.out.1 n)
                obtain ⟨lk, li, ⟨lvk, lvn, lvt⟩⟩ := lo
                obtain ⟨rk, ri, ⟨rvk, rvn, rvt⟩⟩ := ro
                obtain ⟨⟨bl, b0, b1, b2, b3, b4, b5, b6, b7, b8, b9, b10, b11, b12⟩, bf⟩ := hp
                obtain ⟨⟨l, c0, c1, c2, c3, c4, c5, c6, c7, c8, c9, c10, c11, c12⟩, f⟩ := HRB.out wf hbyc
                clear hm1 hm2 hkl hkr hcc hbyc HPE HCE HBE HM
                simp only [op_mk, cmp_mk, l_mk, r_mk, zeroO, nilV] at c0 c1 c2 c3 c4 c5 c6 c7 c8 c9 c10 c11 b0 b1 b2 b3 b4 b5 b6 b7 b8 b9 b10 b11
                go_wp2
                exact bodyPost_ret (v := (Pr.mk 3 cmp ⟨lk, li, ⟨lvk, lvn, lvt⟩⟩ ⟨rk, ri, ⟨rvk, rvn, rvt⟩⟩ []).val (.slice none 0 0)) (by simp [results, Tryd.results32, go_sem, Pr.val, op_mk, cmp_mk, l_mk, r_mk, zeroO, nilV, c0, c1, c2, c3, c4, c5, c6, c7, c8, c9, c10, c11, c12, l]; try rfl) rfl
                  (have h := fin_tree HCI.out (Nat.le_refl _) HCF.out (by_trans (by_some HBA.out _) HBF.out) (PrIn.nil (S := fun g => w.heap.size < g) (w := wf) n none 0) _ _ _ _ _ _ _ _ _ _ _ _ _
                  ⟨.mk 3 cmp ⟨lk, li, ⟨lvk, lvn, lvt⟩⟩ ⟨rk, ri, ⟨rvk, rvn, rvt⟩⟩ [], .slice none 0 0, rfl, h.1, HOKL.out, h.2.1, h.2.2⟩)
    · have HI := Lib.hid (int_calls b c 2 (by omega) (by omega) w3 HC3.out)
      go_wp2_with fail
      refine HI.out.mono ?_
      rintro e w4 ⟨y, rfl, hy0, hy1, hc4, hby4⟩
      have HC4 := Lib.hid hc4
      have HB4 := Lib.hid (by_trans HB3.out hby4)
      obtain ⟨⟨l, c0, c1, c2, c3, c4, c5, c6, c7, c8, c9, c10, c11, c12⟩, f⟩ := HRB.out w4 HB4.out
      have hy : Hid (1 + y = 1 ∨ 1 + y = 2) := by show _ ∨ _; omega
      have hwk : wrap64 (1 + y) = 1 + y := wrap_i64 (by omega) (by omega)
      clear hc4 hby4 HI hy0 hy1
      simp only [op_mk, cmp_mk, l_mk, r_mk, zeroO, nilV] at c0 c1 c2 c3 c4 c5 c6 c7 c8 c9 c10 c11
      go_wp2
      exact bodyPost_ret (v := (Pr.mk (1 + y) 0 zeroO zeroO []).val (.slice none 0 0)) (by simp [results, Tryd.results32, go_sem, Pr.val, op_mk, cmp_mk, l_mk, r_mk, zeroO, nilV, c0, c1, c2, c3, c4, c5, c6, c7, c8, c9, c10, c11, c12, l]; try rfl) rfl
        (have h := fin_tree HCI.out (Nat.le_refl _) HC4.out (by_trans (by_some HBA.out _) HB4.out) (PrIn.nil (S := fun g => w.heap.size < g) (w := w4) n none 0) _ _ _ _ _ _ _ _ _ _ _ _ _
        ⟨.mk (1 + y) 0 zeroO zeroO [], .slice none 0 0, rfl, h.1, TreeOk.plain hy.out n, h.2.1, h.2.2⟩)
end Go.Proofs.YtpmlhgakbpfgmaaDoor
