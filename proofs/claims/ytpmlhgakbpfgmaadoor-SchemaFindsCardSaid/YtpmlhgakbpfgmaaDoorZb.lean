/- The contracts of schema.find and schema.first. -/
import Derived.Test.YtpmlhgakbpfgmaaDoorZa
import Derived.Test.YtpmlhgakbpfgmaaDoorPp
import Derived.Test.YtpmlhgakbpfgmaaDoorPw
set_option linter.unusedSimpArgs false
set_option linter.unusedVariables false
namespace Go.Proofs.YtpmlhgakbpfgmaaDoor
open Go.RowKit

/-- What find answers. -/
def FindOut (full : Bool) (k : Nat) (S : Nat → Prop) (ts : List Tab) (i : Int) (w : World) (e : Ending) (w' : World) : Prop :=
  ∃ (ca : Option Addr) (cc : Nat) (ra : Option Addr) (rn rc : Nat) (ka : Option Addr) (kn kc : Nat),
    e = .returned (.tuple #[.agg #[.string (tabOf ts i).name, .slice ca (tabOf ts i).cols.length cc, .int .i64 (tabOf ts i).key, .slice ra rn rc, .slice ka kn kc], .bool (inTabs ts i)]) ∧
    TabV full k S w (tabOf ts i) ca cc ra rn rc ka kn kc ∧ Gro w w'
theorem find_none {full : Bool} {k : Nat} {S : Nat → Prop} {ts : List Tab} {i : Int} {w w' : World} (h : inTabs ts i = false) (hg : Gro w w') :
    FindOut full k S ts i w (.returned (.tuple #[.agg #[.string ⟨#[]⟩, .slice none 0 0, .int .i64 0, .slice none 0 0, .slice none 0 0], .bool false])) w' := by
  unfold FindOut
  rw [tabOf_none h, h]
  exact ⟨none, 0, none, 0, 0, none, 0, 0, rfl, ⟨ColsAt.nil none 0, fun _ => RefsAt.nil none 0, fun _ => PrIn.nil k none 0⟩, hg⟩
set_option maxHeartbeats 2000000 in
set_option maxRecDepth 100000 in
theorem find_calls (full : Bool) (k : Nat) (T S : Nat → Prop) (ver : Int) (v : Value) (ts : List Tab) (i : Int) (w : World) (hp : TabsAt full k T S w v ts) :
    Calls Tryd.prog 24 #[.agg #[.int .i64 ver, v], .int .i64 i] w (FindOut full k S ts i w) := by
  have HP := Lib.hid hp
  obtain ⟨a, cap, rfl, hl⟩ := hp.slice
  clear hp
  obtain ⟨N, hN⟩ : ∃ N, ts.length = N := ⟨_, rfl⟩
  rw [hN] at hl HP ⊢
  have HN := Lib.hid hN
  clear hN
  by_cases h0 : i < 0
  · have HE : Hid (inTabs ts i = false) := by show _ = _; unfold inTabs; rw [decide_eq_false (by omega)]; rfl
    have hd : decide (i < 0) = true := by simpa using h0
    go_enter Tryd.func24, Tryd.ntmps24
    go_wp2
    exact bodyPost_ret (v := .tuple #[.agg #[.string ⟨#[]⟩, .slice none 0 0, .int .i64 0, .slice none 0 0, .slice none 0 0], .bool false]) (by simp [results, Tryd.results24, go_sem]; try rfl) rfl (find_none HE.out (by repeat (first | exact Gro.refl _ | refine Gro.setCell ?_ (by simp) _ | refine Gro.alloc ?_ _)))
  by_cases h1 : (N : Int) ≤ i
  · have HE : Hid (inTabs ts i = false) := by show _ = _; unfold inTabs; have := HN.out; rw [decide_eq_false (p := i < (ts.length : Int)) (by omega), Bool.and_false]
    have hd : decide (i < 0) = false := by simpa using h0
    have hd1 : decide ((N : Int) ≤ i) = true := by simpa using h1
    go_enter Tryd.func24, Tryd.ntmps24
    go_wp2
    exact bodyPost_ret (v := .tuple #[.agg #[.string ⟨#[]⟩, .slice none 0 0, .int .i64 0, .slice none 0 0, .slice none 0 0], .bool false]) (by simp [results, Tryd.results24, go_sem]; try rfl) rfl (find_none HE.out (by repeat (first | exact Gro.refl _ | refine Gro.setCell ?_ (by simp) _ | refine Gro.alloc ?_ _)))
  · obtain ⟨n, rfl⟩ : ∃ n : Nat, i = n := ⟨i.toNat, by omega⟩
    have hn : n < ts.length := by rw [HN.out]; omega
    obtain ⟨b, off, rfl, hb, -, ca, cc, ra, rn, rc, ka, kn, kc, ⟨d0, d1, d2, d3, d4⟩, hv⟩ := HP.out.get hn
    have HE : Hid (inTabs ts n = true) := by show _ = _; unfold inTabs; simp; omega
    have HT := Lib.hid (tabOf_nat hn)
    have HV := Lib.hid hv
    unfold FindOut
    rw [HE.out]
    rw [HT.out]
    obtain ⟨t, ht⟩ : ∃ t, ts[n] = t := ⟨_, rfl⟩
    rw [ht] at HV d0 d1 d2 ⊢
    obtain ⟨C, hC⟩ : ∃ C, t.cols.length = C := ⟨_, rfl⟩
    have HC := Lib.hid hC
    rw [hC] at d1 ⊢
    have hd : decide ((n : Int) < 0) = false := by simp
    have hd1 : decide ((N : Int) ≤ n) = false := by simp; omega
    have hnN : (n : Int) < (N : Int) := by omega
    clear HP hn ht hv HT HE hC
    go_enter Tryd.func24, Tryd.ntmps24
    go_wp2
    exact bodyPost_ret (v := .tuple #[.agg #[.string t.name, .slice ca C cc, .int .i64 t.key, .slice ra rn rc, .slice ka kn kc], .bool true]) (by simp [results, Tryd.results24, go_sem]; try rfl) rfl ⟨ca, cc, ra, rn, rc, ka, kn, kc, rfl, HV.out, (by repeat (first | exact Gro.refl _ | refine Gro.setCell ?_ (by simp) _ | refine Gro.alloc ?_ _))⟩
set_option maxHeartbeats 1000000 in
set_option maxRecDepth 100000 in
theorem firstCol_calls (a : Option Addr) (n cap : Nat) (k : Int) (w : World) (hc : n ≤ cap) (hn : n ≤ 17592186044416) : Calls Tryd.prog 26 #[.slice a n cap, .int .i64 k] w fun e w' => e = .returned (.slice a (keyOf k n) cap) ∧ w' = w := by
  unfold keyOf
  go_enter Tryd.func26, Tryd.ntmps26
  go_wp2
  all_goals
    go_ret
    refine ⟨?_, rfl⟩
    rename_i h1
    first | rw [if_neg (by omega)] at h1 | rw [if_pos h] at h1
    refine congrArg (fun x => Ending.returned (Value.slice a x cap)) ?_
    omega
set_option maxHeartbeats 1000000 in
set_option maxRecDepth 100000 in
theorem firstVal_calls (a : Option Addr) (n cap : Nat) (k : Int) (w : World) (hc : n ≤ cap) (hn : n ≤ 17592186044416) : Calls Tryd.prog 28 #[.slice a n cap, .int .i64 k] w fun e w' => e = .returned (.slice a (keyOf k n) cap) ∧ w' = w := by
  unfold keyOf
  go_enter Tryd.func28, Tryd.ntmps28
  go_wp2
  all_goals
    go_ret
    refine ⟨?_, rfl⟩
    rename_i h1
    first | rw [if_neg (by omega)] at h1 | rw [if_pos h] at h1
    refine congrArg (fun x => Ending.returned (Value.slice a x cap)) ?_
    omega
end Go.Proofs.YtpmlhgakbpfgmaaDoor
/- The contracts of schema.kindsOf, Kinds, KeyKinds. -/
set_option linter.unusedSimpArgs false
set_option linter.unusedVariables false
namespace Go.Proofs.YtpmlhgakbpfgmaaDoor
open Go.RowKit

theorem ints_set (l : List Int) (j : Nat) (x : Int) : (ints l).set j (.int .i64 x) = ints (l.set j x) := by unfold ints; rw [List.map_set]
theorem OwnN.ints4 {S : Nat → Prop} {w : World} {base : Nat} {v : Value} {l : List Int} (h : OwnN w base v l) (hl : l.length ≤ 17592186044416) (hS : ∀ b, base ≤ b → S b) : IntsAt S w v l := by
  obtain ⟨hx, hv | ⟨g, cap, cur, rfl, hg, hh, hcap, hm, hs, ht⟩⟩ := h
  · obtain ⟨rfl, hn⟩ := hv
    obtain rfl : l = [] := List.length_eq_zero_iff.1 hn
    exact IntsAt.nil none 0
  · have h' : w.ownsRow base 3 1 (.slice (some ⟨g, 0, none⟩) l.length cap) l.length (Go.Proofs.YtpmlhgakbpfgmaaDoor.ints l) := ⟨hx, .inr ⟨g, cap, cur, rfl, hg, hh, hcap, hm, hs, ht⟩⟩
    refine ⟨_, cap, rfl, by omega, .inr ⟨g, 0, rfl, (Array.getElem?_eq_some_iff.1 hh).1, hS g hg, fun i hi => ?_⟩⟩
    have hc := h'.cellAt i (by omega)
    rw [Nat.zero_add, hc]
    unfold Go.Proofs.YtpmlhgakbpfgmaaDoor.ints
    simp [hi]
/-- A list of numbers in memory of the call's own. -/
def IntsOut (l : List Int) (w : World) (e : Ending) (w' : World) : Prop := ∃ v, e = .returned v ∧ OwnN w' w.heap.size v l ∧ Gro w w'
set_option maxHeartbeats 2000000 in
set_option maxRecDepth 100000 in
theorem kindsOf_calls (S : Nat → Prop) (v : Value) (l : List Col) (w : World) (hp : ColsAt S w v l) : Calls Tryd.prog 25 #[v] w (IntsOut (l.map Col.k) w) := by
  obtain ⟨i, hi, hz, hsz, hby⟩ := info_parts infoI
  have HP := Lib.hid hp
  obtain ⟨a, cap, rfl, hl, -⟩ := hp.slice
  clear hp
  obtain ⟨N, hN⟩ : ∃ N, l.length = N := ⟨_, rfl⟩
  rw [hN] at hl HP ⊢
  have HN := Lib.hid hN
  obtain ⟨w1, hrun1, hown1, hg1⟩ := run_make_full (P := Tryd.prog) w w.heap.size 34 3 i _ 1 Tryd.underlying34 hi hz hsz .i64 .i64 N (by rw [hby]; omega) (by unfold maxLen; omega) (Nat.le_refl _)
  have hd1 : Gro w w1 := by
    have hr := run_make (P := Tryd.prog) w 34 3 i _ Tryd.underlying34 hi hz .i64 .i64 (N : Int) (N : Int) (by omega) (by omega) (by rw [hby]; omega) (by omega)
    have e := hr.symm.trans hrun1
    simp only [Result.ok.injEq] at e
    rw [← e.2]; exact (Gro.refl w).alloc _
  have hz1 : w1.heap.size = w.heap.size + 1 := by
    have hr := run_make (P := Tryd.prog) w 34 3 i _ Tryd.underlying34 hi hz .i64 .i64 (N : Int) (N : Int) (by omega) (by omega) (by rw [hby]; omega) (by omega)
    have e := hr.symm.trans hrun1
    simp only [Result.ok.injEq] at e
    rw [← e.2]; simp
  have hmc : (madeCells (Value.int IntKind.i64 0).cells (N * 1)).toList = ints (List.replicate N 0) := by
    rw [Nat.mul_one]; show (madeCells #[.int .i64 0] N).toList = _
    rw [toList_madeCells_one]; unfold ints; rw [List.map_replicate]
  rw [hmc] at hown1
  have HR0 : Hid (w1.ownsRow w.heap.size 3 1 (.slice (some ⟨w.heap.size, 0, none⟩) N N) N (ints (List.replicate N 0)) ∧ Gro w w1 ∧ w.heap.size < w1.heap.size) := ⟨hown1, hd1, by omega⟩
  clear hN hmc hi hz hsz hby hown1 hg1 hd1 hz1
  obtain ⟨G, hG⟩ : ∃ G, w.heap.size = G := ⟨_, rfl⟩
  have HG := Lib.hid hG
  rw [hG] at HR0 hrun1
  clear hG
  go_enter Tryd.func25, Tryd.ntmps25
  go_wp2_with fail
  clear hrun1
  go_loopw [4, 5, 11] (fun _ _ i wr => ∃ (j : Nat) (R : List Int), j ≤ N ∧ i = .int .i64 j ∧ R.length = N ∧ R.take j = (l.map Col.k).take j ∧ wr.ownsRow w.heap.size 3 1 (.slice (some ⟨G, 0, none⟩) N N) N (ints R) ∧ Gro w wr ∧ G < wr.heap.size) (fun _ _ i _ => N - (intOf i).toNat)
  case atStart => exact ⟨0, List.replicate N 0, by omega, rfl, by simp, by simp, by rw [HG.out]; exact HR0.out.1, HR0.out.2⟩
  case round =>
    obtain ⟨j, R, hj, rfl, hR, htk, hown, hg, hlt1⟩ := hrel
    have hwk := step_i j (by omega)
    have HO := Lib.hid hown
    have HGR := Lib.hid hg
    have HTK := Lib.hid htk
    have HRL := Lib.hid hR
    by_cases hlt : j < N
    · have hkl : j < l.length := by rw [HN.out]; exact hlt
      have hlt' : decide ((j : Int) < (N : Int)) = true := by simp; omega
      obtain ⟨b, off, rfl, hbl, -, d0, d1⟩ := (HP.out.later hg.below).get hkl
      have hjR : j < R.length := by omega
      obtain ⟨x, hx⟩ : ∃ x, l[j] = x := ⟨_, rfl⟩
      rw [hx] at d0 d1
      have hcell : wr.cell? ⟨G, j, none⟩ = some (.int .i64 R[j]) := by
        rw [hown.cellAt j (by omega)]; unfold ints; simp [hjR]
      have hfro := hown.frozenAt j
      have HST := Lib.hid ((hown.stored j (.int .i64 x.k)).1.alloc (.cells #[.string x.n, .int .i64 x.k] 46))
      have HGS := Lib.hid ((hg.setCell (p := ⟨G, j, none⟩) (by have := HG.out; simp; omega) (.int .i64 x.k)).alloc (.cells #[.string x.n, .int .i64 x.k] 46))
      have HX := Lib.hid hx
      clear hx htk hown hg hR
      go_wp2_with fail
      exact ⟨⟨j + 1, R.set j x.k, by omega, by go_num, by simp [HRL.out], by
        rw [List.take_succ_eq_append_getElem (by simpa using hjR), List.take_succ_eq_append_getElem (by simpa using hkl), List.take_set_of_le (Nat.le_refl _), HTK.out]
        simp [HX.out], by rw [← ints_set]; exact HST.out, HGS.out, by simp; omega⟩, by simp [intOf]; omega⟩
    · have hlt' : decide ((j : Int) < (N : Int)) = false := by simp; omega
      have HE : Hid (R = l.map Col.k) := by
        show _ = _
        rw [List.take_of_length_le (by omega), List.take_of_length_le (by rw [List.length_map]; have := HN.out; omega)] at htk
        exact htk
      clear htk hown hg hR
      go_wp2_with fail
      go_ret
      exact ⟨_, rfl, by rw [← HE.out]; show World.ownsRow _ _ _ _ _ _ _; rw [HRL.out]; exact HO.out, HGR.out⟩
theorem own_mono {w : World} {base base' : Nat} {e : TypeId} {size : Nat} {v : Value} {n : Nat} {xs : List Value} (h : w.ownsRow base e size v n xs) (hb : base' ≤ base) : w.ownsRow base' e size v n xs :=
  ⟨h.1, h.2.imp id fun ⟨g, cap, cur, h1, h2, h3⟩ => ⟨g, cap, cur, h1, Nat.le_trans hb h2, h3⟩⟩
theorem IntsOut.from {l : List Int} {w0 w : World} {e : Ending} {w' : World} (h : IntsOut l w e w') (hg : Gro w0 w) : IntsOut l w0 e w' :=
  let ⟨v, h1, h2, h3⟩ := h
  ⟨v, h1, own_mono h2 hg.size, hg.trans h3⟩
theorem kindsS_out {ts : List Tab} {i : Int} (h : inTabs ts i = false) : kindsS ts i = [] := by unfold kindsS; rw [tabOf_none h]; rfl
set_option maxHeartbeats 2000000 in
set_option maxRecDepth 100000 in
theorem sKinds_calls (full : Bool) (k : Nat) (T S : Nat → Prop) (ver : Int) (v : Value) (ts : List Tab) (i : Int) (w : World) (hp : TabsAt full k T S w v ts) :
    Calls Tryd.prog 9 #[.agg #[.int .i64 ver, v], .int .i64 i] w (IntsOut (kindsS ts i) w) := by
  obtain ⟨W, hW⟩ : ∃ W, W = w.alloc (.cells #[.int .i64 ver, v] 25) := ⟨_, rfl⟩
  have hg : Gro w W := by rw [hW]; exact (Gro.refl w).alloc _
  have HF := Lib.hid (find_calls full k T S ver v ts i W (hp.later hg.below))
  have HG := Lib.hid hg
  have HW := Lib.hid hW
  obtain ⟨a, cap, rfl, hl⟩ := hp.slice
  clear hp hg hW
  go_enter Tryd.func9, Tryd.ntmps9
  go_wp2_with fail
  rw [← HW.out]
  refine HF.out.mono ?_
  rintro e w2 ⟨ca, cc, ra, rn, rc, ka, kn, kc, rfl, hv, hg2⟩
  have HG2 := Lib.hid (HG.out.trans hg2)
  obtain ⟨t, ht⟩ : ∃ t, tabOf ts i = t := ⟨_, rfl⟩
  have HT := Lib.hid ht
  rw [ht] at hv ⊢
  have HC := Lib.hid (fun w' (hg' : Gro W w') => kindsOf_calls S (.slice ca t.cols.length cc) t.cols w' (hv.cols.later hg'.below))
  have HG2' := Lib.hid hg2
  cases hin : inTabs ts i with
  | false =>
    have HE : Hid (kindsS ts i = []) := kindsS_out hin
    clear hin ht hv hg2 HF
    go_wp2_with fail
    go_ret
    exact ⟨_, rfl, by rw [HE.out]; exact World.ownsRow_nil _ _ _ _, HG2.out.alloc _⟩
  | true =>
    clear hin ht hv hg2 HF
    go_wp2_with fail
    refine (HC.out _ (HG2'.out.alloc _)).mono ?_
    rintro e w3 h3
    obtain ⟨v3, rfl, ho3, hg3⟩ := h3.from (HG2.out.alloc _)
    have HO := Lib.hid (And.intro ho3 hg3)
    clear h3 ho3 hg3
    go_wp2
    go_ret
    exact ⟨_, rfl, by unfold kindsS; rw [HT.out]; exact HO.out.1, HO.out.2⟩
theorem keyKindsS_out {ts : List Tab} {i : Int} (h : inTabs ts i = false) : keyKindsS ts i = [] := by unfold keyKindsS; rw [kindsS_out h, List.take_nil]
set_option maxHeartbeats 2000000 in
set_option maxRecDepth 100000 in
theorem sKeyKinds_calls (full : Bool) (k : Nat) (T S : Nat → Prop) (ver : Int) (v : Value) (ts : List Tab) (i : Int) (w : World) (hp : TabsAt full k T S w v ts) :
    Calls Tryd.prog 11 #[.agg #[.int .i64 ver, v], .int .i64 i] w (IntsOut (keyKindsS ts i) w) := by
  obtain ⟨W, hW⟩ : ∃ W, W = w.alloc (.cells #[.int .i64 ver, v] 25) := ⟨_, rfl⟩
  have hg : Gro w W := by rw [hW]; exact (Gro.refl w).alloc _
  have HF := Lib.hid (find_calls full k T S ver v ts i W (hp.later hg.below))
  have HG := Lib.hid hg
  have HW := Lib.hid hW
  obtain ⟨a, cap, rfl, hl⟩ := hp.slice
  clear hp hg hW
  go_enter Tryd.func11, Tryd.ntmps11
  go_wp2_with fail
  rw [← HW.out]
  refine HF.out.mono ?_
  rintro e w2 ⟨ca, cc, ra, rn, rc, ka, kn, kc, rfl, hv, hg2⟩
  have HG2 := Lib.hid (HG.out.trans hg2)
  obtain ⟨t, ht⟩ : ∃ t, tabOf ts i = t := ⟨_, rfl⟩
  have HT := Lib.hid ht
  rw [ht] at hv ⊢
  have hsl := hv.cols.slice
  simp only [Value.slice.injEq] at hsl
  obtain ⟨a1, c1, ⟨rfl, -, rfl⟩, hb1, hb2⟩ := hsl
  have HM : Hid (keyOf t.key t.cols.length ≤ t.cols.length) := by show _ ≤ _; unfold keyOf; omega
  have HFI := Lib.hid (fun w' => firstCol_calls ca t.cols.length cc t.key w' hb2 hb1)
  obtain ⟨m, hm⟩ : ∃ m, keyOf t.key t.cols.length = m := ⟨_, rfl⟩
  have HMM := Lib.hid hm
  rw [hm] at HM HFI
  have hcm := hv.cols.take m HM.out
  have HC := Lib.hid (fun w' (hg' : Gro W w') => kindsOf_calls S (.slice ca m cc) (t.cols.take m) w' (by have h := (hcm.later hg'.below); exact h))
  clear hb1 hb2 hm hcm
  have HG2' := Lib.hid hg2
  cases hin : inTabs ts i with
  | false =>
    have HE : Hid (keyKindsS ts i = []) := keyKindsS_out hin
    clear hin ht hv hg2 HF
    go_wp2_with fail
    go_ret
    exact ⟨_, rfl, by rw [HE.out]; exact World.ownsRow_nil _ _ _ _, HG2.out.alloc _⟩
  | true =>
    clear hin ht hv hg2 HF
    go_wp2_with fail
    refine (HFI.out _).mono ?_
    rintro e w2' ⟨rfl, rfl⟩
    go_wp2_with fail
    refine (HC.out _ (HG2'.out.alloc _)).mono ?_
    rintro e w3 h3
    obtain ⟨v3, rfl, ho3, hg3⟩ := h3.from (HG2.out.alloc _)
    have HO := Lib.hid (And.intro ho3 hg3)
    clear h3 ho3 hg3
    go_wp2
    go_ret
    exact ⟨_, rfl, by unfold keyKindsS kindsS kindsT; rw [HT.out, HMM.out, ← List.map_take]; exact HO.out.1, HO.out.2⟩
end Go.Proofs.YtpmlhgakbpfgmaaDoor
