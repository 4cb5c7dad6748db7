/- The contract of schema.Fits. -/
import Derived.Test.YtpmlhgakbpfgmaaDoorZb
import Derived.Test.YtpmlhgakbpfgmaaDoorR
import Derived.Test.YtpmlhgakbpfgmaaDoorE
import Derived.BigQuiet
import Derived.Deep.CutRange
set_option linter.unusedSimpArgs false
set_option linter.unusedVariables false
namespace Go.Proofs.YtpmlhgakbpfgmaaDoor
open Go.RowKit

def modeB (m : Int) : Bool := decide (m = 1) || decide (m = 2) || decide (m = 3)
def lackB (m k : Int) : Bool := if k = 2 then !decide (m = 1) else if k = 1 then decide (m = 3) else false
/-- Whether a cell fits at its place. -/
noncomputable def cellFits (t : Tab) (m : Int) (i : Nat) (v : V) : Bool := validB v && (decide (v.k = (t.cols.map Col.k).getD i 0) || (decide (t.key ≤ i) && lackB m v.k))
noncomputable def fitsT (t : Tab) (m : Int) (r : List V) : Bool := decide (r.length = t.cols.length) && (List.range r.length).all fun i => cellFits t m i (r.getD i ⟨0, 0, ⟨#[]⟩⟩)
noncomputable def fitsS (ts : List Tab) (i m : Int) (r : List V) : Bool := inTabs ts i && modeB m && fitsT (tabOf ts i) m r
theorem isMode_calls (m : Int) (w : World) : Calls Tryd.prog 39 #[.int .i64 m] w (BoolG (modeB m) w) := by
  by_cases h1 : m = 1
  · subst h1
    go_enter Tryd.func39, Tryd.ntmps39
    go_wp2
    go_ret
    exact boolg rfl (Gro.refl _)
  by_cases h2 : m = 2
  · subst h2
    go_enter Tryd.func39, Tryd.ntmps39
    go_wp2
    go_ret
    exact boolg rfl (Gro.refl _)
  by_cases h3 : m = 3
  · subst h3
    go_enter Tryd.func39, Tryd.ntmps39
    go_wp2
    go_ret
    exact boolg rfl (Gro.refl _)
  have HM : Hid (modeB m = false) := by show _ = _; unfold modeB; rw [decide_eq_false h1, decide_eq_false h2, decide_eq_false h3]; rfl
  go_enter Tryd.func39, Tryd.ntmps39
  go_wp2
  go_ret
  exact boolg (by rw [HM.out]; simp [h1, h2, h3]) (Gro.refl _)
theorem mayLack_calls (m k : Int) (w : World) : Calls Tryd.prog 40 #[.int .i64 m, .int .i64 k] w (BoolG (lackB m k) w) := by
  by_cases h2 : k = 2
  · subst h2
    go_enter Tryd.func40, Tryd.ntmps40
    go_wp2
    go_ret
    exact boolg (by unfold lackB; rw [if_pos rfl]; first | rfl | (rw [Bool.eq_iff_iff]; simp)) (Gro.refl _)
  by_cases h1 : k = 1
  · subst h1
    go_enter Tryd.func40, Tryd.ntmps40
    go_wp2
    go_ret
    exact boolg (by unfold lackB; rw [if_neg (by omega), if_pos rfl]; first | rfl | (rw [Bool.eq_iff_iff]; simp)) (Gro.refl _)
  have HM : Hid (lackB m k = false) := by show _ = _; unfold lackB; rw [if_neg h2, if_neg h1]
  go_enter Tryd.func40, Tryd.ntmps40
  go_wp2
  all_goals
    go_ret
    exact boolg (by rw [HM.out]) (Gro.refl _)
theorem RowAt.get {w : World} {a : Option Addr} {n cap : Nat} {r : List V} (h : RowAt w (.slice a n cap) r) {i : Nat} (hi : i < r.length) : ∃ b off, a = some ⟨b, off, none⟩ ∧ b < w.heap.size ∧ At w b (off + i * 3) r[i] := by
  obtain ⟨a1, cap1, hv, -, h3⟩ := h
  simp only [Value.slice.injEq] at hv
  obtain ⟨rfl, -, rfl⟩ := hv
  obtain ⟨b, off, rfl, k2⟩ := h3.resolve_left (by rintro rfl; simp at hi)
  exact ⟨b, off, rfl, k2.blk, k2.at_ i hi⟩
theorem fitsS_no {ts : List Tab} {i m : Int} {r : List V} (h : inTabs ts i = false ∨ modeB m = false ∨ r.length ≠ (tabOf ts i).cols.length) : fitsS ts i m r = false := by
  unfold fitsS fitsT
  rcases h with h | h | h
  · rw [h]; rfl
  · rw [h, Bool.and_false]; rfl
  · rw [decide_eq_false h]; simp
/-- The five cells of a table's box. -/
structure TBox (w : World) (g : Nat) (n : ByteArray) (ca : Option Addr) (cn cc : Nat) (key : Int) (ra : Option Addr) (rn rc : Nat) (ka : Option Addr) (kn kc : Nat) : Prop where
  l : g < w.heap.size
  c0 : w.cell? ⟨g, 0, none⟩ = some (.string n)
  c1 : w.cell? ⟨g, 1, none⟩ = some (.slice ca cn cc)
  c2 : w.cell? ⟨g, 2, none⟩ = some (.int .i64 key)
  c3 : w.cell? ⟨g, 3, none⟩ = some (.slice ra rn rc)
  c4 : w.cell? ⟨g, 4, none⟩ = some (.slice ka kn kc)
abbrev tObj (n : ByteArray) (ca : Option Addr) (cn cc : Nat) (key : Int) (ra : Option Addr) (rn rc : Nat) (ka : Option Addr) (kn kc : Nat) : Obj := .cells #[.string n, .slice ca cn cc, .int .i64 key, .slice ra rn rc, .slice ka kn kc] 52
theorem TBox.new (w : World) (n : ByteArray) (ca : Option Addr) (cn cc : Nat) (key : Int) (ra : Option Addr) (rn rc : Nat) (ka : Option Addr) (kn kc : Nat) : TBox (w.alloc (tObj n ca cn cc key ra rn rc ka kn kc)) w.heap.size n ca cn cc key ra rn rc ka kn kc := ⟨by simp, by go_simp, by go_simp, by go_simp, by go_simp, by go_simp⟩
theorem TBox.later {w w' : World} {g : Nat} {n : ByteArray} {ca : Option Addr} {cn cc : Nat} {key : Int} {ra : Option Addr} {rn rc : Nat} {ka : Option Addr} {kn kc : Nat} (h : TBox w g n ca cn cc key ra rn rc ka kn kc) (hw : Below w.heap.size w w') : TBox w' g n ca cn cc key ra rn rc ka kn kc :=
  have hc : ∀ o, w'.cell? ⟨g, o, none⟩ = w.cell? ⟨g, o, none⟩ := fun o => hw.cell (p := ⟨g, o, none⟩) h.l
  ⟨Nat.lt_of_lt_of_le h.l hw.size, (hc _).trans h.c0, (hc _).trans h.c1, (hc _).trans h.c2, (hc _).trans h.c3, (hc _).trans h.c4⟩
/-- The first j cells fit. -/
def FitTo (t : Tab) (m : Int) (r : List V) (j : Nat) : Prop := (List.range j).all (fun i => cellFits t m i (r.getD i ⟨0, 0, ⟨#[]⟩⟩)) = true
theorem FitTo.next {t : Tab} {m : Int} {r : List V} {j : Nat} (h : FitTo t m r j) (hj : j < r.length) (hc : cellFits t m j r[j] = true) : FitTo t m r (j + 1) := by
  unfold FitTo at h ⊢
  rw [List.range_succ, List.all_append, h]
  simp [hj, hc]
theorem fits_bad {t : Tab} {m : Int} {r : List V} {j : Nat} (hj : j < r.length) (hc : cellFits t m j r[j] = false) : fitsT t m r = false := by
  unfold fitsT
  rw [Bool.and_eq_false_iff]
  right
  rw [List.all_eq_false]
  exact ⟨j, by simpa using hj, by simp [hj, hc]⟩
set_option maxHeartbeats 8000000 in
set_option maxRecDepth 100000 in
theorem fits_calls (full : Bool) (k : Nat) (T S : Nat → Prop) (ver : Int) (v : Value) (ts : List Tab) (i m : Int) (vr : Value) (r : List V) (w : World) (hp : TabsAt full k T S w v ts) (hr : RowAt w vr r) :
    Calls Tryd.prog 31 #[.agg #[.int .i64 ver, v], .int .i64 i, vr, .int .i64 m] w (BoolG (fitsS ts i m r) w) := by
  have mx := mixed
  obtain ⟨W, hW⟩ : ∃ W, W = w.alloc (.cells #[.int .i64 ver, v] 25) := ⟨_, rfl⟩
  have hg : Gro w W := by rw [hW]; exact (Gro.refl w).alloc _
  have HF := Lib.hid (find_calls full k T S ver v ts i W (hp.later hg.below))
  have HG := Lib.hid hg
  have HW := Lib.hid hW
  have HR := Lib.hid hr
  obtain ⟨a, cap, rfl, hl⟩ := hp.slice
  obtain ⟨pa, ca0, rfl, la, -⟩ := hr
  have HIM := Lib.hid (fun w' => isMode_calls m w')
  clear hp hg hW
  go_enter Tryd.func31, Tryd.ntmps31
  go_wp2_with fail
  rw [← HW.out]
  refine HF.out.mono ?_
  rintro e w2 ⟨ca, cc, ra, rn, rc, ka, kn, kc, rfl, hv, hg2⟩
  have HG2 := Lib.hid (HG.out.trans hg2)
  obtain ⟨t, ht⟩ : ∃ t, tabOf ts i = t := ⟨_, rfl⟩
  have HT := Lib.hid ht
  rw [ht] at hv ⊢
  cases hin : inTabs ts i with
  | false =>
    have HE : Hid (fitsS ts i m r = false) := fitsS_no (.inl hin)
    clear hin ht hv hg2 HF
    go_wp2_with fail
    go_ret
    exact boolg HE.out.symm (HG2.out.alloc _)
  | true =>
    obtain ⟨q, hq⟩ : ∃ q, modeB m = q := ⟨_, rfl⟩
    rw [hq] at HIM
    cases q with
    | false =>
      have HE : Hid (fitsS ts i m r = false) := fitsS_no (.inr (.inl hq))
      clear hin ht hv hg2 HF hq
      go_wp2_with fail
      refine (HIM.out _).mono ?_
      rintro e w3 ⟨rfl, hg3⟩
      have HG3 := Lib.hid ((HG2.out.alloc _).trans hg3)
      clear hg3
      go_wp2_with fail
      go_ret
      exact boolg HE.out.symm HG3.out
    | true =>
      obtain ⟨C, hC⟩ : ∃ C, t.cols.length = C := ⟨_, rfl⟩
      obtain ⟨N, hN⟩ : ∃ N, r.length = N := ⟨_, rfl⟩
      obtain ⟨W2, hW2⟩ : ∃ W2, W2 = w2.alloc (tObj t.name ca t.cols.length cc t.key ra rn rc ka kn kc) := ⟨_, rfl⟩
      have HTB : Hid (TBox W2 w2.heap.size t.name ca C cc t.key ra rn rc ka kn kc) := by rw [hW2, hC]; exact TBox.new _ _ _ _ _ _ _ _ _ _ _ _
      have HG2W : Hid (Gro W W2) := by show Gro _ _; rw [hW2]; exact hg2.alloc _
      have HWW : Hid (Gro w W2) := HG.out.trans HG2W.out
      have HCO := Lib.hid (hv.cols.later HG2W.out.below)
      have HRW := Lib.hid (HR.out.later HWW.out.below)
      have HWE := Lib.hid hW2
      have HIN := Lib.hid (And.intro hin hq)
      rw [hN] at la HRW HR ⊢
      rw [hC] at HCO HWE ⊢
      have HN := Lib.hid hN
      have HC := Lib.hid hC
      clear hin ht hv hg2 HF hq hW2 hC hN HR
      go_wp2_with fail
      rw [← HWE.out]
      clear HWE
      refine (HIM.out _).mono ?_
      rintro e w3 ⟨rfl, hg3⟩
      have HG3 := Lib.hid hg3
      have HW3 := Lib.hid (HWW.out.trans hg3)
      obtain ⟨l5, c0, c1, c2, c3, c4⟩ := HTB.out.later hg3.below
      clear hg3
      by_cases hCN : N = C
      · subst hCN
        clear c0 c3 c4 l5
        go_wp2_with fail
        go_loopw [11, 12, 13, 37] (fun _ _ _ y wr => ∃ j : Nat, j ≤ N ∧ y = .int .i64 j ∧ FitTo t m r j ∧ Gro w3 wr) (fun _ _ _ y _ => N - (intOf y).toNat)
        case atStart => exact ⟨0, by omega, rfl, rfl, Gro.refl _⟩
        case round =>
          obtain ⟨j, hj, rfl, hft, hgr⟩ := hrel
          have HFT := Lib.hid hft
          have HGR := Lib.hid hgr
          have hwk := step_i j (by omega)
          have HGW := Lib.hid (HG3.out.trans hgr)
          clear hft c1 c2
          by_cases hlt : j < N
          · have hjr : j < r.length := by rw [HN.out]; exact hlt
            have hjc : j < t.cols.length := by rw [HC.out]; exact hlt
            have hlt' : decide ((j : Int) < (N : Int)) = true := by simp; omega
            obtain ⟨b, off, rfl, hbl, d0, d1, d2⟩ := (HRW.out.later HGW.out.below).get hjr
            obtain ⟨cb, co, rfl, hcl, -, k0, k1⟩ := (HCO.out.later HGW.out.below).get hjc
            have htb := HTB.out.later HGW.out.below
            have HJR := Lib.hid hjr
            have HCF : Hid (cellFits t m j r[j] = (validB r[j] && (decide (r[j].k = t.cols[j].k) || (decide (t.key ≤ j) && lackB m r[j].k)))) := by
              show _ = _; unfold cellFits; simp [hjc]
            have HNX : Hid (cellFits t m j r[j] = true → FitTo t m r (j + 1)) := fun h => HFT.out.next HJR.out h
            have HBD : Hid (cellFits t m j r[j] = false → fitsT t m r = false) := fun h => fits_bad HJR.out h
            generalize r[j] = x at d0 d1 d2 HCF HNX HBD
            generalize t.cols[j] = c at k0 k1 HCF
            obtain ⟨xk, xn, xt⟩ := x
            obtain ⟨cn, ck⟩ := c
            simp only at d0 d1 d2 k0 k1
            replace HCF : Hid (cellFits t m j ⟨xk, xn, xt⟩ = (validB ⟨xk, xn, xt⟩ && (decide (xk = ck) || (decide (t.key ≤ j) && lackB m xk)))) := HCF.out
            obtain ⟨W1, hW1⟩ : ∃ W1, W1 = wr.alloc (.cells #[.int .i64 xk, .int .i64 xn, .string xt] 56) := ⟨_, rfl⟩
            have hgw1 : Gro wr W1 := by rw [hW1]; exact (Gro.refl _).alloc _
            have HBX : Hid (Box W1 wr.heap.size ⟨xk, xn, xt⟩) := by rw [hW1]; exact Box.new wr ⟨xk, xn, xt⟩ _
            have HTB1 := Lib.hid (htb.later hgw1.below)
            have HKC : Hid (W1.cell? ⟨cb, co + j * 2 + 1, none⟩ = some (.int .i64 ck) ∧ cb < W1.heap.size) := ⟨(hgw1.below.cell (p := ⟨cb, co + j * 2 + 1, none⟩) hcl).trans k1, Nat.lt_of_lt_of_le hcl hgw1.size⟩
            have HGW1 := Lib.hid (HGR.out.trans hgw1)
            have HWE1 := Lib.hid hW1
            have HLK := Lib.hid (fun w' => mayLack_calls m xk w')
            obtain ⟨lk, hlk⟩ : ∃ lk, lackB m xk = lk := ⟨_, rfl⟩
            rw [hlk] at HLK HCF
            obtain ⟨key, hkey⟩ : ∃ key, t.key = key := ⟨_, rfl⟩
            rw [hkey] at HTB1 HCF
            clear htb hgw1 hW1 hjr hjc hgr k0 k1 hlk hkey
            go_upto_region 7 with fail
            rw [← HWE1.out]
            clear HWE1 d0 d1 d2
            go_cut [13] from 42 to 70 (fun v wx => v = .bool (decide (key ≤ (j : Int)) && lk) ∧ Gro W1 wx)
            case first =>
              obtain ⟨-, c0, c1, c2, c3, c4⟩ := HTB1.out
              obtain ⟨q0, q1, q2, q3⟩ := HBX.out.cells
              by_cases hk : key ≤ (j : Int)
              · have hk' : decide (key ≤ (j : Int)) = true := by simpa using hk
                go_wp2_with fail
                refine (HLK.out _).mono ?_
                rintro e w5 ⟨rfl, hg5⟩
                have HG5 := Lib.hid hg5
                clear hg5
                go_wp2_with fail
                go_meet
                case rel => exact ⟨by simp [hk], HG5.out⟩
              · have hk' : decide (key ≤ (j : Int)) = false := by simpa using hk
                go_wp2_with fail
                go_meet
                case rel => exact ⟨by rw [hk']; rfl, Gro.refl _⟩
            case rest =>
              obtain ⟨rfl, hgx⟩ := hcut
              obtain ⟨wq, rfl⟩ : ∃ wq : World, wq = wc := ⟨_, rfl⟩
              have hbx := HBX.out.later hgx.below
              obtain ⟨htl, c0, c1, c2, c3, c4⟩ := HTB1.out.later hgx.below
              have hkc := (hgx.below.cell (p := ⟨cb, co + j * 2 + 1, none⟩) HKC.out.2).trans HKC.out.1
              have hkl := Nat.lt_of_lt_of_le HKC.out.2 hgx.size
              have HGQ := Lib.hid (HGW1.out.trans hgx)
              have HVC := Lib.hid (fun w' => valid_calls ⟨xk, xn, xt⟩ w')
              obtain ⟨q0, q1, q2, q3⟩ := hbx.cells
              obtain ⟨o, ho⟩ : ∃ o, (decide (key ≤ (j : Int)) && lk) = o := ⟨_, rfl⟩
              rw [ho] at HCF ⊢
              have hjN : (j : Int) < (N : Int) := by omega
              have hVB := HVC.out
              obtain ⟨q, hq⟩ : ∃ q, validB ⟨xk, xn, xt⟩ = q := ⟨_, rfl⟩
              rw [hq] at HCF hVB
              have HVD := Lib.hid hVB
              have HOO := Lib.hid ho
              clear hgx hbx hq hVB HVC HBX HTB1 HKC HLK HTB HCO HRW HGR HGW c0 c3 c4 ho hbl hcl
              generalize wr.heap.size = gp at *
              cases q with
              | false =>
                have HE : Hid (fitsS ts i m r = false) := by
                  show _ = _
                  unfold fitsS
                  rw [HT.out, HBD.out (by rw [HCF.out]; rfl), Bool.and_false]
                go_wp2_with fail
                refine wp_region_quiet_grown mx (by kernel_rfl) ?_
                repeat (go_big_quiet_step ((first | (go_at_call 41; refine gro_calls (HVD.out _)))))
                refine wpQuiet_nil ?_
                intro x1 hw'
                obtain ⟨⟨nq, osq⟩, hw''⟩ := hw'
                subst hw''
                go_wp2
                go_ret
                exact boolg HE.out.symm (HW3.out.trans (HGQ.out.grown _ _))
              | true =>
                by_cases he : xk = ck
                · subst he
                  have hne : (xk != xk) = false := by simp
                  have HF1 : Hid (FitTo t m r (j + 1)) := HNX.out (by rw [HCF.out]; simp)
                  go_wp2_with fail
                  refine wp_region_quiet_grown mx (by kernel_rfl) ?_
                  repeat (go_big_quiet_step ((first | (go_at_call 41; refine gro_calls (HVD.out _)))))
                  refine wpQuiet_nil ?_
                  intro x1 hw'
                  obtain ⟨⟨nq, osq⟩, hw''⟩ := hw'
                  subst hw''
                  go_wp2_with fail
                  generalize wrap64 ((j : Int) + 1) = z at hwk ⊢
                  subst hwk
                  go_roundw
                  case rel => exact ⟨j + 1, by omega, by go_num, HF1.out, HGQ.out.grown _ _⟩
                  case measure => simp [intOf]; omega
                · have hne : (xk != ck) = true := by simpa using he
                  cases o with
                  | true =>
                    have HF1 : Hid (FitTo t m r (j + 1)) := HNX.out (by rw [HCF.out]; simp)
                    go_wp2_with fail
                    refine wp_region_quiet_grown mx (by kernel_rfl) ?_
                    repeat (go_big_quiet_step ((first | (go_at_call 41; refine gro_calls (HVD.out _)))))
                    refine wpQuiet_nil ?_
                    intro x1 hw'
                    obtain ⟨⟨nq, osq⟩, hw''⟩ := hw'
                    subst hw''
                    go_wp2_with fail
                    generalize wrap64 ((j : Int) + 1) = z at hwk ⊢
                    subst hwk
                    go_roundw
                    case rel => exact ⟨j + 1, by omega, by go_num, HF1.out, HGQ.out.grown _ _⟩
                    case measure => simp [intOf]; omega
                  | false =>
                    have HE : Hid (fitsS ts i m r = false) := by
                      show _ = _
                      unfold fitsS
                      rw [HT.out, HBD.out (by rw [HCF.out]; rw [decide_eq_false he]; rfl), Bool.and_false]
                    go_wp2_with fail
                    refine wp_region_quiet_grown mx (by kernel_rfl) ?_
                    repeat (go_big_quiet_step ((first | (go_at_call 41; refine gro_calls (HVD.out _)))))
                    refine wpQuiet_nil ?_
                    intro x1 hw'
                    obtain ⟨⟨nq, osq⟩, hw''⟩ := hw'
                    subst hw''
                    go_wp2
                    go_ret
                    exact boolg HE.out.symm (HW3.out.trans (HGQ.out.grown _ _))
          · have hlt' : decide ((j : Int) < (N : Int)) = false := by simp; omega
            have HE : Hid (fitsS ts i m r = true) := by
              obtain rfl : j = N := by omega
              show _ = _
              have h := HFT.out
              unfold FitTo at h
              unfold fitsS fitsT
              rw [HIN.out.1, HIN.out.2, HT.out, HN.out, HC.out, h]; simp
            clear hgr
            go_wp2_with fail
            go_ret
            exact boolg HE.out.symm (HW3.out.trans HGR.out)
      · have HE : Hid (fitsS ts i m r = false) := fitsS_no (.inr (.inr (by rw [HT.out, HN.out, HC.out]; exact hCN)))
        have hne : ((N : Int) != (C : Int)) = true := by simp; omega
        go_wp2_with fail
        go_ret
        exact boolg HE.out.symm HW3.out
end Go.Proofs.YtpmlhgakbpfgmaaDoor
/- The contract of the reference's Fits. -/
set_option linter.unusedSimpArgs false
set_option linter.unusedVariables false
namespace Go.Proofs.YtpmlhgakbpfgmaaDoor
open Go.RowKit

theorem modeB_iff (m : Int) : modeB m = true ↔ 1 ≤ m ∧ m ≤ 3 := by
  unfold modeB; simp only [Bool.or_eq_true, decide_eq_true_eq]; omega
/-- The two cells of a schema's box. -/
structure SBox (w : World) (g : Nat) (ver : Int) (a : Option Addr) (n cap : Nat) : Prop where
  l : g < w.heap.size
  c0 : w.cell? ⟨g, 0, none⟩ = some (.int .i64 ver)
  c1 : w.cell? ⟨g, 1, none⟩ = some (.slice a n cap)
theorem SBox.new (w : World) (ver : Int) (a : Option Addr) (n cap : Nat) (T : TypeId) : SBox (w.alloc (.cells #[.int .i64 ver, .slice a n cap] T)) w.heap.size ver a n cap := ⟨by simp, by go_simp, by go_simp⟩
theorem SBox.later {w w' : World} {g : Nat} {ver : Int} {a : Option Addr} {n cap : Nat} (h : SBox w g ver a n cap) (hw : Below w.heap.size w w') : SBox w' g ver a n cap :=
  have hc : ∀ o, w'.cell? ⟨g, o, none⟩ = w.cell? ⟨g, o, none⟩ := fun o => hw.cell (p := ⟨g, o, none⟩) h.l
  ⟨Nat.lt_of_lt_of_le h.l hw.size, (hc _).trans h.c0, (hc _).trans h.c1⟩
end Go.Proofs.YtpmlhgakbpfgmaaDoor
