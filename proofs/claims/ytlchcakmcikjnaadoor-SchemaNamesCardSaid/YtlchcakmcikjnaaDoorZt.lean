/- The contract of the case's Row for any key and mode. -/
import Derived.Test.YtlchcakmcikjnaaDoorZd
import Derived.Test.YtlchcakmcikjnaaDoorQa
import Derived.Deep.CutRange
import Derived.Test.YtlchcakmcikjnaaDoorZq
import Derived.Test.YtlchcakmcikjnaaDoorZs
set_option linter.unusedSimpArgs false
set_option linter.unusedVariables false
namespace Go.Proofs.YtlchcakmcikjnaaDoor
open Go.RowKit

/-- Whether a cell may stand at its place. -/
def CellM (key m : Int) (j : Nat) (kk : Int) (x : V) : Prop := x.k = kk ∨ (key ≤ j ∧ m ≠ 1 ∧ x.k = 2) ∨ (key ≤ j ∧ m = 3 ∧ x.k = 1)
def CellsOkM (ks : List Int) (key m : Int) (r : List V) : Prop := ∀ j (h : j < r.length), CellM key m j (ks.getD j 0) r[j]
theorem CellsOkM.snoc {ks : List Int} {key m : Int} {r : List V} (h : CellsOkM ks key m r) (hl : r.length < ks.length) {x : V} (hx : CellM key m r.length ks[r.length] x) : CellsOkM ks key m (r ++ [x]) := by
  intro j hj
  by_cases hjl : j < r.length
  · rw [List.getElem_append_left hjl]; exact h j hjl
  · obtain rfl : j = r.length := by simp at hj; omega
    rw [List.getElem_append_right (Nat.le_refl _)]
    simp only [Nat.sub_self, List.getElem_cons_zero]
    rw [show ks.getD r.length 0 = ks[r.length] from by simp [hl]]; exact hx
def GotCellsM (b : Nat) (c : CaseId) (ks : List Int) (key m : Int) (w : World) (e : Ending) (w' : World) : Prop :=
  ∃ (v : Value) (r : List V), e = .returned v ∧ r.length = ks.length ∧ CellsOkM ks key m r ∧ AllV r ∧ w'.ownsRow w.heap.size 56 3 v r.length (flat r) ∧ CaseAt w' b c ∧ w.grownBy w' (some b)
/-- Such a row fits. -/
theorem fits_of_cells {t : Tab} {m : Int} {r : List V} (hm : 1 ≤ m ∧ m ≤ 3) (hl : r.length = t.cols.length) (hc : CellsOkM (t.cols.map Col.k) t.key m r) (ha : AllV r) : fitsT t m r = true := by
  unfold fitsT
  rw [Bool.and_eq_true]
  refine ⟨by simpa using hl, ?_⟩
  rw [List.all_eq_true]
  intro i hi
  have hi' : i < r.length := by simpa using hi
  have h1 := hc i hi'
  have h2 := (ha r[i] (List.getElem_mem hi')).1
  unfold cellFits
  rw [show r.getD i ⟨0, 0, ⟨#[]⟩⟩ = r[i] from by simp [hi'], h2]
  generalize r[i] = x at h1
  rcases h1 with h | ⟨hk, hm1, h⟩ | ⟨hk, hm3, h⟩
  · rw [h]; simp
  · rw [h, decide_eq_true hk]; simp [lackB, hm1]
  · rw [h, decide_eq_true hk]; simp [lackB, hm3]
set_option maxHeartbeats 4000000 in
set_option maxRecDepth 100000 in
theorem caseRowM_calls (S : Nat → Prop) (b : Nat) (hS : ¬ S b) (c : CaseId) (vk : Value) (ks : List Int) (hok : KindsOk ks) (key m : Int) (w : World) (hc : CaseAt w b c) (hk : IntsAt S w vk ks) (hks : ks.length ≤ 4398046511104) : Calls Tryd.prog 25 #[.pointer (some ⟨b, 0, none⟩), vk, .int .i64 key, .int .i64 m] w (GotCellsM b c ks key m w) := by
  obtain ⟨i, hi, hz, hsz, hby⟩ := info_parts info24
  have HC := Lib.hid hc
  have HI := Lib.hid hi
  have HZ := Lib.hid hz
  have HSZ := Lib.hid hsz
  have HBY := Lib.hid hby
  have HK := Lib.hid (fun wr (hg : w.grownBy wr (some b)) => hk.kept (kept_by hg (fun g hg' => by cases hg'; exact hS)))
  obtain ⟨ka, kc, rfl, -⟩ := hk.slice
  have hkl := hks
  clear hks
  generalize hN : ks.length = N at hkl HK ⊢
  have HN := Lib.hid hN
  have hb0 : b < w.heap.size := hc.lt
  clear hc hi hz hsz hby hk hN
  go_enter Tryd.func25, Tryd.ntmps25
  go_wp2_with fail
  go_loopw [9, 10, 11, 14, 25, 41] (fun v _ _ y _ _ wr => ∃ (j : Nat) (r : List V), j ≤ N ∧ y = .int .i64 j ∧ r.length = j ∧ CellsOkM ks key m r ∧ AllV r ∧ wr.ownsRow w.heap.size 56 3 v r.length (flat r) ∧ CaseAt wr b c ∧ w.grownBy wr (some b)) (fun _ _ _ y _ _ _ => N - (intOf y).toNat)
  case atStart => exact ⟨0, [], by omega, rfl, rfl, fun j h => absurd h (by simp), fun x hx => absurd hx (by simp), World.ownsRow_nil _ _ _ _, HC.out, ⟨rfl, rfl, rfl, Nat.le_refl _, fun _ _ _ => rfl⟩⟩
  case round =>
    obtain ⟨j, r, hj, rfl, hrl, hcells, hall, hown, hcr, hbr⟩ := hrel
    have HCE := Lib.hid hcells
    have HALL := Lib.hid hall
    have HOW := Lib.hid hown
    have HCR := Lib.hid hcr
    have HBR := Lib.hid hbr
    have HRL := Lib.hid hrl
    clear hcells hall hown hcr
    by_cases hlt : j < N
    · have hkl' : j < ks.length := by rw [HN.out]; exact hlt
      have hlt' : decide ((j : Int) < (N : Int)) = true := by simp; omega
      obtain ⟨kb, ko, rfl, hkb, -, d0⟩ := (HK.out wr hbr).get hkl'
      have HKJ := Lib.hid (hok _ (List.getElem_mem hkl'))
      have HKR : Hid (∀ x : V, CellM key m j ks[j] x → CellsOkM ks key m (r ++ [x])) := fun x hx => HCE.out.snoc (by rw [HRL.out]; exact hkl') (by simpa [HRL.out] using hx)
      generalize ks[j] = kk at d0 HKJ HKR
      have hwk := step_i j (by omega)
      have hln : r.length + 1 ≤ 4398046511104 := by omega
      have HJ := Lib.hid hlt
      clear hbr hrl hkl'
      go_upto_region 6 with fail
      clear d0 hkb
      go_cut [25] from 26 to 57 (fun v wx => ∃ q : Bool, v = .bool q ∧ (q = true → key ≤ (j : Int) ∧ m ≠ 1) ∧ CaseAt wx b c ∧ wr.grownBy wx (some b))
      case first =>
        by_cases hkj : key ≤ (j : Int)
        · have hd : decide (key ≤ (j : Int)) = true := by simpa using hkj
          by_cases hm1 : m = 1
          · have hme : (m != 1) = false := by simpa using hm1
            go_wp2_with fail
            go_meet
            case rel => exact ⟨false, rfl, fun h => (by cases h), HCR.out, ⟨rfl, rfl, rfl, Nat.le_refl _, fun _ _ _ => rfl⟩⟩
          · have hme : (m != 1) = true := by simpa using hm1
            have HB5 := Lib.hid (boolp_calls b c 5 (by omega) (by omega) wr HCR.out)
            go_wp2_with fail
            refine HB5.out.mono ?_
            rintro e w2 ⟨q, rfl, hc2, hby2⟩
            have HX := Lib.hid (And.intro hc2 hby2)
            clear hc2 hby2 HB5
            go_wp2_with fail
            go_meet
            case rel => exact ⟨q, rfl, fun _ => ⟨hkj, hm1⟩, HX.out⟩
        · have hd : decide (key ≤ (j : Int)) = false := by simpa using hkj
          go_wp2_with fail
          go_meet
          case rel => exact ⟨false, rfl, fun h => (by cases h), HCR.out, ⟨rfl, rfl, rfl, Nat.le_refl _, fun _ _ _ => rfl⟩⟩
      case rest =>
        obtain ⟨q1, rfl, hq1, hc2, hby2⟩ := hcut
        obtain ⟨w2, rfl⟩ : ∃ wz : World, wz = wc := ⟨_, rfl⟩
        have HQ1 := Lib.hid hq1
        have HC2 := Lib.hid hc2
        have HB2 := Lib.hid (by_trans HBR.out hby2)
        have HO2 := Lib.hid (HOW.out.kept hby2 (own_far HOW.out hb0))
        clear hq1 hc2 hby2 HOW HBR HCR
        cases q1 with
        | true =>
          have hbase : w.heap.size ≤ w2.heap.size := HB2.out.size
          go_wp2_with (at_builtin; go_must (refine wpList_append_own _ rfl _ _ 43 rfl w.heap.size 56 i (V.val ⟨0, 0, ⟨#[]⟩⟩) 3 32 Tryd.underlying43 HI.out HZ.out HSZ.out HBY.out rfl (by decide) _ r.length (flat r) rfl (World.ownsRow.alloc HO2.out _) ⟨w2.heap.size, 0, none⟩ 1 1 [.int .i64 2, .int .i64 0, .string ⟨#[]⟩] rfl rfl (cell_three_new _ _ _ _ _) (by intro x hx; simp at hx; rcases hx with rfl | rfl | rfl <;> rfl) (by unfold maxLen; omega) (by omega) (by simp; omega) ?_))
          intro v' w7 hown' hgrow hnil
          have HF := Lib.hid (row_snoc (x := ⟨2, 0, ⟨#[]⟩⟩) HC.out HC2.out HB2.out HO2.out hown' hgrow)
          have HNC : Hid (CellsOkM ks key m (r ++ [⟨2, 0, ⟨#[]⟩⟩])) := HKR.out _ (.inr (.inl ⟨(HQ1.out trivial).1, (HQ1.out trivial).2, rfl⟩))
          have HNA := Lib.hid (HALL.out.snoc (x := ⟨2, 0, ⟨#[]⟩⟩) (by simp [validB, validP, data_empty]) (by unfold isNum; simp))
          have HNL : Hid ((r ++ [(⟨2, 0, ⟨#[]⟩⟩ : V)]).length = j + 1) := by show _ = _; rw [List.length_append, HRL.out]; rfl
          clear hown' hgrow hnil hln
          go_wp2_with fail
          generalize wrap64 ((j : Int) + 1) = z at hwk ⊢
          subst hwk
          have hjj := HJ.out
          go_roundw
          case rel => exact ⟨j + 1, r ++ [⟨2, 0, ⟨#[]⟩⟩], by omega, by go_num, HNL.out, HNC.out, HNA.out, HF.out⟩
          case measure => simp [intOf]; omega
        | false =>
          go_upto_region 8 with fail
          go_cut [41] from 42 to 57 (fun v wx => ∃ q : Bool, v = .bool q ∧ (q = true → key ≤ (j : Int) ∧ m = 3) ∧ CaseAt wx b c ∧ w2.grownBy wx (some b))
          case first =>
            by_cases hkj : key ≤ (j : Int)
            · have hd : decide (key ≤ (j : Int)) = true := by simpa using hkj
              by_cases hm3 : m = 3
              · have hme : (m == 3) = true := by simpa using hm3
                have HM3 := Lib.hid hm3
                clear hm3
                have HB5 := Lib.hid (boolp_calls b c 5 (by omega) (by omega) w2 HC2.out)
                go_wp2_with fail
                refine HB5.out.mono ?_
                rintro e w3 ⟨q, rfl, hc3, hby3⟩
                have HX := Lib.hid (And.intro hc3 hby3)
                clear hc3 hby3 HB5
                go_wp2_with fail
                go_meet
                case rel => exact ⟨q, rfl, fun _ => ⟨hkj, HM3.out⟩, HX.out⟩
              · have hme : (m == 3) = false := by simpa using hm3
                go_wp2_with fail
                go_meet
                case rel => exact ⟨false, rfl, fun h => (by cases h), HC2.out, ⟨rfl, rfl, rfl, Nat.le_refl _, fun _ _ _ => rfl⟩⟩
            · have hd : decide (key ≤ (j : Int)) = false := by simpa using hkj
              go_wp2_with fail
              go_meet
              case rel => exact ⟨false, rfl, fun h => (by cases h), HC2.out, ⟨rfl, rfl, rfl, Nat.le_refl _, fun _ _ _ => rfl⟩⟩
          case rest =>
            obtain ⟨q2, rfl, hq2, hc3, hby3⟩ := hcut
            obtain ⟨w3, rfl⟩ : ∃ wz : World, wz = wc := ⟨_, rfl⟩
            have HQ2 := Lib.hid hq2
            have HC3 := Lib.hid hc3
            have HB3 := Lib.hid (by_trans HB2.out hby3)
            have HO3 := Lib.hid (HO2.out.kept hby3 (own_far HO2.out hb0))
            clear hq2 hc3 hby3 HO2 HB2 HC2
            cases q2 with
            | true =>
              have hbase : w.heap.size ≤ w3.heap.size := HB3.out.size
              go_wp2_with (at_builtin; go_must (refine wpList_append_own _ rfl _ _ 43 rfl w.heap.size 56 i (V.val ⟨0, 0, ⟨#[]⟩⟩) 3 32 Tryd.underlying43 HI.out HZ.out HSZ.out HBY.out rfl (by decide) _ r.length (flat r) rfl (World.ownsRow.alloc HO3.out _) ⟨w3.heap.size, 0, none⟩ 1 1 [.int .i64 1, .int .i64 0, .string ⟨#[]⟩] rfl rfl (cell_three_new _ _ _ _ _) (by intro x hx; simp at hx; rcases hx with rfl | rfl | rfl <;> rfl) (by unfold maxLen; omega) (by omega) (by simp; omega) ?_))
              intro v' w7 hown' hgrow hnil
              have HF := Lib.hid (row_snoc (x := ⟨1, 0, ⟨#[]⟩⟩) HC.out HC3.out HB3.out HO3.out hown' hgrow)
              have HNC : Hid (CellsOkM ks key m (r ++ [⟨1, 0, ⟨#[]⟩⟩])) := HKR.out _ (.inr (.inr ⟨(HQ2.out trivial).1, (HQ2.out trivial).2, rfl⟩))
              have HNA := Lib.hid (HALL.out.snoc (x := ⟨1, 0, ⟨#[]⟩⟩) (by simp [validB, validP, data_empty]) (by unfold isNum; simp))
              have HNL : Hid ((r ++ [(⟨1, 0, ⟨#[]⟩⟩ : V)]).length = j + 1) := by show _ = _; rw [List.length_append, HRL.out]; rfl
              clear hown' hgrow hnil hln
              go_wp2_with fail
              generalize wrap64 ((j : Int) + 1) = z at hwk ⊢
              subst hwk
              have hjj := HJ.out
              go_roundw
              case rel => exact ⟨j + 1, r ++ [⟨1, 0, ⟨#[]⟩⟩], by omega, by go_num, HNL.out, HNC.out, HNA.out, HF.out⟩
              case measure => simp [intOf]; omega
            | false =>
              have HV := Lib.hid (caseValueK_calls b c kk HKJ.out.1 HKJ.out.2 w3 HC3.out)
              go_wp2_with fail
              refine HV.out.mono ?_
              rintro e w4 ⟨⟨vk, vn, vt⟩, rfl, hvk, hval, hnum, hc4, hby4⟩
              have HC4 := Lib.hid hc4
              have HB4 := Lib.hid (by_trans HB3.out hby4)
              have HO4 := Lib.hid (HO3.out.kept hby4 (own_far HO3.out hb0))
              have HVN := Lib.hid (And.intro hvk (And.intro hval hnum))
              clear hc4 hby4 HO3 HB3 HC3 HV hvk hval hnum
              have hbase : w.heap.size ≤ w4.heap.size := HB4.out.size
              go_wp2_with (at_builtin; go_must (refine wpList_append_own _ rfl _ _ 43 rfl w.heap.size 56 i (V.val ⟨0, 0, ⟨#[]⟩⟩) 3 32 Tryd.underlying43 HI.out HZ.out HSZ.out HBY.out rfl (by decide) _ r.length (flat r) rfl (World.ownsRow.alloc HO4.out _) ⟨w4.heap.size, 0, none⟩ 1 1 [.int .i64 vk, .int .i64 vn, .string vt] rfl rfl (cell_three_new _ _ _ _ _) (by intro x hx; simp at hx; rcases hx with rfl | rfl | rfl <;> rfl) (by unfold maxLen; omega) (by omega) (by simp; omega) ?_))
              intro v' w7 hown' hgrow hnil
              have HF := Lib.hid (row_snoc (x := ⟨vk, vn, vt⟩) HC.out HC4.out HB4.out HO4.out hown' hgrow)
              have HNC : Hid (CellsOkM ks key m (r ++ [⟨vk, vn, vt⟩])) := HKR.out _ (.inl HVN.out.1)
              have HNA := Lib.hid (HALL.out.snoc (x := ⟨vk, vn, vt⟩) HVN.out.2.1 HVN.out.2.2)
              have HNL : Hid ((r ++ [(⟨vk, vn, vt⟩ : V)]).length = j + 1) := by show _ = _; rw [List.length_append, HRL.out]; rfl
              clear hown' hgrow hnil hln
              go_wp2_with fail
              generalize wrap64 ((j : Int) + 1) = z at hwk ⊢
              subst hwk
              have hjj := HJ.out
              go_roundw
              case rel => exact ⟨j + 1, r ++ [⟨vk, vn, vt⟩], by omega, by go_num, HNL.out, HNC.out, HNA.out, HF.out⟩
              case measure => simp [intOf]; omega
    · have hlt' : decide ((j : Int) < (N : Int)) = false := by simp; omega
      have HF : Hid (r.length = ks.length) := by show _ = _; have := HN.out; omega
      clear hbr hrl
      go_wp2
      go_ret
      exact ⟨_, r, rfl, HF.out, HCE.out, HALL.out, HOW.out, HCR.out, HBR.out⟩
end Go.Proofs.YtlchcakmcikjnaaDoor
/- What the laws of schema share: the case's schema in a law, and that its references are good. -/
set_option linter.unusedSimpArgs false
set_option linter.unusedVariables false
namespace Go.Proofs.YtlchcakmcikjnaaDoor
open Go.RowKit

theorem keyKinds4 (n : Nat) (id : Int) (R1 R2 R3 : List Rfc) (K1 : List Pr) (i : Nat) (hi : i < n) : keyKindsS (tabs4 n id R1 R2 R3 K1) i = (kindsT (tab4 id R1 R2 R3 K1 i)).take (keyOf (tab4 id R1 R2 R3 K1 i).key (tab4 id R1 R2 R3 K1 i).cols.length) := by
  unfold keyKindsS kindsS
  rw [tabOf_nat (by rw [tabs4_length]; exact hi), tabs4_get]
theorem refs_good {n : Nat} {id : Int} {R1 R2 R3 : List Rfc} {K1 : List Pr} (ok : SchemaOk n id R1 R2 R3 K1) (i : Nat) (hi : i < n) (u : Rfc) (hu : u ∈ (tab4 id R1 R2 R3 K1 i).refs) :
    (∀ c ∈ u.cols, 0 ≤ c ∧ c < (kindsT (tab4 id R1 R2 R3 K1 i)).length) ∧ u.cols.map (atI (kindsT (tab4 id R1 R2 R3 K1 i))) = keyKindsS (tabs4 n id R1 R2 R3 K1) u.t := by
  have h4 := ok.n4
  have h2 := ok.n2
  obtain rfl | rfl | rfl | rfl : i = 0 ∨ i = 1 ∨ i = 2 ∨ i = 3 := by omega
  · exact absurd hu (by simp [tab4])
  · rcases ok.r1 with h | h
    · exact absurd hu (by simp [tab4, h])
    · have hu' : u = ⟨[1], 0⟩ := by simpa [tab4, h] using hu
      subst hu'
      refine ⟨fun c hc => ?_, ?_⟩
      · simp at hc; subst hc; simp [kindsT, tab4, cols1]
      · show _ = keyKindsS _ ((0 : Nat) : Int)
        rw [keyKinds4 n id R1 R2 R3 K1 0 (by omega)]; rfl
  · rcases ok.r2 with h | h
    · exact absurd hu (by simp [tab4, h])
    · have hu' : u = ⟨[0], 0⟩ := by simpa [tab4, h] using hu
      subst hu'
      refine ⟨fun c hc => ?_, ?_⟩
      · simp at hc; subst hc; simp [kindsT, tab4, cols2]
      · show _ = keyKindsS _ ((0 : Nat) : Int)
        rw [keyKinds4 n id R1 R2 R3 K1 0 (by omega)]; rfl
  · rcases ok.r3 with h | h
    · exact absurd hu (by simp [tab4, h])
    · have hu' : u = ⟨[0], 1⟩ := by simpa [tab4, h] using hu
      subst hu'
      refine ⟨fun c hc => ?_, ?_⟩
      · simp at hc; subst hc; simp [kindsT, tab4, cols3]
      · show _ = keyKindsS _ ((1 : Nat) : Int)
        rw [keyKinds4 n id R1 R2 R3 K1 1 (by omega)]; rfl
theorem kinds4_ok {n : Nat} {id : Int} {R1 R2 R3 : List Rfc} {K1 : List Pr} (ok : SchemaOk n id R1 R2 R3 K1) (i : Nat) (hi : i < n) : KindsOk (kindsS (tabs4 n id R1 R2 R3 K1) i) ∧ (kindsS (tabs4 n id R1 R2 R3 K1) i).length ≤ 4 ∧ 1 ≤ (kindsS (tabs4 n id R1 R2 R3 K1) i).length := by
  have h4 := ok.n4
  have hid := ok.idk
  unfold kindsS
  rw [tabOf_nat (by rw [tabs4_length]; exact hi), tabs4_get]
  obtain rfl | rfl | rfl | rfl : i = 0 ∨ i = 1 ∨ i = 2 ∨ i = 3 := by omega
  all_goals
    refine ⟨?_, by simp [kindsT, tab4, cols0, cols1, cols2, cols3], by simp [kindsT, tab4, cols0, cols1, cols2, cols3]⟩
    intro k hk
    simp [kindsT, tab4, cols0, cols1, cols2, cols3] at hk
    omega
/-- The case and its schema, in a law. -/
structure MS (b : Nat) (c : CaseId) (w0 wr : World) (sb tb n cap : Nat) (ver : Int) (T : Nat → Tab) : Prop where
  hb : w0.heap.size ≤ b
  ht : b < tb
  ts : tb < sb
  l : Laid4 (fun g => b < g ∧ g ≠ tb) wr tb T
  s : SBox wr sb ver (some ⟨tb, 0, none⟩) n cap
  c : CaseAt wr b c
  g : Below w0.heap.size w0 wr
theorem MS.case {b : Nat} {c : CaseId} {w0 wr wr' : World} {sb tb n cap : Nat} {ver : Int} {T : Nat → Tab} (h : MS b c w0 wr sb tb n cap ver T) (hc : CaseAt wr' b c) (hg : wr.grownBy wr' (some b)) : MS b c w0 wr' sb tb n cap ver T :=
  have ht := h.ht
  have hts := h.ts
  have hb := h.hb
  have hcl : ∀ o, wr'.cell? ⟨sb, o, none⟩ = wr.cell? ⟨sb, o, none⟩ := fun o => World.cell?_of_block (hg.block sb h.s.l (by simp; omega))
  ⟨h.hb, h.ht, h.ts, h.l.kept (kept_by hg fun g e hS => by cases e; rcases hS with h | h <;> omega), ⟨Nat.lt_of_lt_of_le h.s.l hg.size, (hcl _).trans h.s.c0, (hcl _).trans h.s.c1⟩, hc, h.g.grown hg h.g.size (fun k hk => by cases hk; exact h.hb)⟩
theorem MS.later {b : Nat} {c : CaseId} {w0 wr wr' : World} {sb tb n cap : Nat} {ver : Int} {T : Nat → Tab} (h : MS b c w0 wr sb tb n cap ver T) (hg : Below wr.heap.size wr wr') : MS b c w0 wr' sb tb n cap ver T :=
  ⟨h.hb, h.ht, h.ts, h.l.later hg, h.s.later hg, h.c.grown ⟨hg.os, hg.tape, hg.output, hg.size, fun k hk _ => hg.block k hk⟩, h.g.trans (hg.mono h.g.size)⟩
/-- The schema that the case has just made, in its box. -/
theorem MS.new {b : Nat} {c : CaseId} {w0 w1 w2 : World} {tb n cap : Nat} {ver : Int} {T : Nat → Tab} (hb : w0.heap.size ≤ b) (hbl : b < w1.heap.size) (h1 : Below w0.heap.size w0 w1) (ht : w1.heap.size ≤ tb) (hl : Laid4 (fun g => w1.heap.size ≤ g ∧ g ≠ tb) w2 tb T) (hc : CaseAt w2 b c) (hg : w1.grownBy w2 (some b)) (X : TypeId) :
    MS b c w0 (w2.alloc (.cells #[.int .i64 ver, .slice (some ⟨tb, 0, none⟩) n cap] X)) w2.heap.size tb n cap ver T := by
  have hal : Below w2.heap.size w2 (w2.alloc (.cells #[.int .i64 ver, .slice (some ⟨tb, 0, none⟩) n cap] X)) := (Below.refl _ _).alloc (Nat.le_refl _) _
  have h2 : Below w0.heap.size w0 w2 := h1.grown hg h1.size (fun k hk => by cases hk; exact hb)
  exact ⟨hb, by omega, hl.lt, (hl.mono fun g _ hS => ⟨by omega, hS.2⟩).later hal, SBox.new _ _ _ _ _ _, hc.grown (World.grownBy_alloc _ _ _), h2.trans (hal.mono h2.size)⟩
theorem MS.tabs {b : Nat} {c : CaseId} {w0 wr : World} {sb tb n cap : Nat} {ver id : Int} {R1 R2 R3 : List Rfc} {K1 : List Pr} (h : MS b c w0 wr sb tb n cap ver (tab4 id R1 R2 R3 K1)) (hn : n ≤ 4) : TabsAt true 3 (fun g => g = tb) (fun g => b < g ∧ g ≠ tb) wr (.slice (some ⟨tb, 0, none⟩) n cap) (tabs4 n id R1 R2 R3 K1) := h.l.tabs n hn cap
/-- The modes are weaker and weaker. -/
theorem fits12 {ts : List Tab} {i : Int} {r : List V} (h : fitsS ts i 1 r = true) : fitsS ts i 2 r = true := by
  unfold fitsS fitsT at h ⊢
  simp only [Bool.and_eq_true] at h ⊢
  refine ⟨⟨h.1.1, rfl⟩, h.2.1, ?_⟩
  rw [List.all_eq_true] at h ⊢
  intro j hj
  have := h.2.2 j hj
  unfold cellFits at this ⊢
  simp only [Bool.and_eq_true, Bool.or_eq_true] at this ⊢
  refine ⟨this.1, this.2.imp id fun h' => ⟨h'.1, ?_⟩⟩
  have h'' := h'.2
  unfold lackB at h'' ⊢
  split at h'' <;> simp_all
theorem fits23 {ts : List Tab} {i : Int} {r : List V} (h : fitsS ts i 2 r = true) : fitsS ts i 3 r = true := by
  unfold fitsS fitsT at h ⊢
  simp only [Bool.and_eq_true] at h ⊢
  refine ⟨⟨h.1.1, rfl⟩, h.2.1, ?_⟩
  rw [List.all_eq_true] at h ⊢
  intro j hj
  have := h.2.2 j hj
  unfold cellFits at this ⊢
  simp only [Bool.and_eq_true, Bool.or_eq_true] at this ⊢
  refine ⟨this.1, this.2.imp id fun h' => ⟨h'.1, ?_⟩⟩
  have h'' := h'.2
  unfold lackB at h'' ⊢
  split at h'' <;> simp_all
end Go.Proofs.YtlchcakmcikjnaaDoor
