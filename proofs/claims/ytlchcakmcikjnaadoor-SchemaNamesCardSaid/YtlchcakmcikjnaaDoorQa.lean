/- The contract of the laws' kinds. -/
import Derived.Test.YtlchcakmcikjnaaDoorPw
import Derived.Test.YtlchcakmcikjnaaDoorPz
set_option linter.unusedSimpArgs false
set_option linter.unusedVariables false
namespace Go.Proofs.YtlchcakmcikjnaaDoor
open Go.RowKit

theorem wrap_i64 {n : Int} (h0 : -4398046511104 ≤ n) (h : n ≤ 4398046511104) : wrap64 n = n := by
  unfold wrap64
  omega
def KindsOk (l : List Int) : Prop := ∀ k ∈ l, 3 ≤ k ∧ k ≤ 5
def GotKinds (b : Nat) (c : CaseId) (most : Nat) (w : World) (e : Ending) (w' : World) : Prop :=
  ∃ (v : Value) (l : List Int), e = .returned v ∧ l.length ≤ most ∧ KindsOk l ∧ OwnN w' w.heap.size v l ∧ CaseAt w' b c ∧ w.grownBy w' (some b)
theorem OwnN.far {base b : Nat} {w w' : World} {v : Value} {l : List Int} (h : OwnN w base v l) (hg : w.grownBy w' (some b)) (hb : b < base) : OwnN w' base v l := World.ownsRow.kept h hg (own_far h hb)
theorem kindsOk_B {l : List Int} (h : KindsOk l) : kindsB l = true := by
  unfold kindsB
  rw [List.all_eq_true]
  intro k hk
  obtain ⟨h1, h2⟩ := h k hk
  obtain rfl | rfl | rfl : k = 3 ∨ k = 4 ∨ k = 5 := by omega
  all_goals rfl
end Go.Proofs.YtlchcakmcikjnaaDoor
/- The contracts of the laws' values and of the case's Row. -/
set_option linter.unusedSimpArgs false
set_option linter.unusedVariables false
namespace Go.Proofs.YtlchcakmcikjnaaDoor
open Go.RowKit

/-- Values of these kinds. -/
def GotVals (b : Nat) (c : CaseId) (ks : List Int) (w : World) (e : Ending) (w' : World) : Prop :=
  ∃ (v : Value) (r : List V), e = .returned v ∧ r.map V.k = ks ∧ AllV r ∧ w'.ownsRow w.heap.size 56 3 v r.length (flat r) ∧ CaseAt w' b c ∧ w.grownBy w' (some b)
/-- Cells of these kinds, some of them Hidden or Missing. -/
def CellsOk (ks : List Int) (r : List V) : Prop := ∀ j (h : j < r.length), r[j].k = ks.getD j 0 ∨ r[j].k = 1 ∨ r[j].k = 2
def GotCells (b : Nat) (c : CaseId) (ks : List Int) (w : World) (e : Ending) (w' : World) : Prop :=
  ∃ (v : Value) (r : List V), e = .returned v ∧ r.length = ks.length ∧ CellsOk ks r ∧ AllV r ∧ w'.ownsRow w.heap.size 56 3 v r.length (flat r) ∧ CaseAt w' b c ∧ w.grownBy w' (some b)
theorem CellsOk.snoc {ks : List Int} {r : List V} (h : CellsOk ks r) (hl : r.length < ks.length) {x : V} (hx : x.k = ks[r.length] ∨ x.k = 1 ∨ x.k = 2) : CellsOk ks (r ++ [x]) := by
  intro j hj
  by_cases hjl : j < r.length
  · rw [List.getElem_append_left hjl]; exact h j hjl
  · obtain rfl : j = r.length := by simp at hj; omega
    rw [List.getElem_append_right (Nat.le_refl _)]
    simp only [Nat.sub_self, List.getElem_cons_zero]
    rw [show ks.getD r.length 0 = ks[r.length] from by simp [hl]]; exact hx
/-- One cell more, in the call's own memory. -/
theorem row_snoc {w w2 w7 : World} {b : Nat} {c : CaseId} {r : List V} {v v' : Value} {x : V} (h0 : CaseAt w b c) (hc : CaseAt w2 b c) (hb : w.grownBy w2 (some b)) (ho : w2.ownsRow w.heap.size 56 3 v r.length (flat r))
    (ho' : w7.ownsRow w.heap.size 56 3 v' (r.length + 1) (flat r ++ [.int .i64 x.k, .int .i64 x.n, .string x.t])) (hg : (w2.alloc (.cells #[.int .i64 x.k, .int .i64 x.n, .string x.t] 56)).grownBy w7 v.ownBlock) :
    w7.ownsRow w.heap.size 56 3 v' (r ++ [x]).length (flat (r ++ [x])) ∧ CaseAt w7 b c ∧ w.grownBy w7 (some b) := by
  have hal := World.grownBy_alloc w2 (.cells #[.int .i64 x.k, .int .i64 x.n, .string x.t] 56)
  refine ⟨?_, ?_, ?_⟩
  · rw [flat_snoc, List.length_append]; exact ho'
  · exact h0.kept (hc.grown (hal none)) hg (fun k hk => (ho.lt k hk).1)
  · exact by_own (by_trans hb (hal _)) hg (fun k hk => (ho.lt k hk).1)

set_option maxHeartbeats 1000000 in
set_option maxRecDepth 100000 in
theorem caseRow_calls (S : Nat → Prop) (b : Nat) (hS : ¬ S b) (c : CaseId) (vk : Value) (ks : List Int) (hok : KindsOk ks) (w : World) (hc : CaseAt w b c) (hk : IntsAt S w vk ks) (hks : ks.length ≤ 4398046511104) : Calls Tryd.prog 25 #[.pointer (some ⟨b, 0, none⟩), vk, .int .i64 0, .int .i64 3] w (GotCells b c ks w) := by
  obtain ⟨i, hi, hz, hsz, hby⟩ := info_parts info24
  have HC := Lib.hid hc
  have HI := Lib.hid hi
  have HZ := Lib.hid hz
  have HSZ := Lib.hid hsz
  have HBY := Lib.hid hby
  have HK := Lib.hid (fun wr (hg : w.grownBy wr (some b)) => hk.kept (kept_by hg (fun g hg' => by cases hg'; exact hS)))
  obtain ⟨ka, kc, rfl, -⟩ := hk.slice
  have hkl := hks
  clear hks
  generalize hN : ks.length = N at hkl HK ⊢
  have HN := Lib.hid hN
  clear hc hi hz hsz hby hk hN
  go_enter Tryd.func25, Tryd.ntmps25
  go_wp2_with fail
  go_loopw [9, 14] (fun v i wr => ∃ (j : Nat) (r : List V), j ≤ N ∧ i = .int .i64 j ∧ r.length = j ∧ CellsOk ks r ∧ AllV r ∧ wr.ownsRow w.heap.size 56 3 v r.length (flat r) ∧ CaseAt wr b c ∧ w.grownBy wr (some b)) (fun _ i _ => N - (intOf i).toNat)
  case atStart => exact ⟨0, [], by omega, rfl, rfl, fun j h => absurd h (by simp), fun x hx => absurd hx (by simp), World.ownsRow_nil _ _ _ _, HC.out, ⟨rfl, rfl, rfl, Nat.le_refl _, fun _ _ _ => rfl⟩⟩
  case round =>
    obtain ⟨j, r, hj, rfl, hrl, hcells, hall, hown, hcr, hbr⟩ := hrel
    have HCE := Lib.hid hcells
    have HALL := Lib.hid hall
    have HOW := Lib.hid hown
    have HCR := Lib.hid hcr
    have HBR := Lib.hid hbr
    have HRL := Lib.hid hrl
    clear hcells hall hown hcr hrl
    by_cases hlt : j < N
    · have hkl' : j < ks.length := by rw [HN.out]; exact hlt
      have hlt' : decide ((j : Int) < (N : Int)) = true := by simp; omega
      have hge : decide ((0 : Int) ≤ (j : Int)) = true := by simp
      obtain ⟨kb, ko, rfl, hkb, -, d0⟩ := (HK.out wr hbr).get hkl'
      have HKJ := Lib.hid (hok _ (List.getElem_mem hkl'))
      have HKR : Hid (∀ x : V, (x.k = ks[j] ∨ x.k = 1 ∨ x.k = 2) → CellsOk ks (r ++ [x])) := fun x hx => HCE.out.snoc (by rw [HRL.out]; exact hkl') (by simpa [HRL.out] using hx)
      generalize ks[j] = kk at d0 HKJ HKR
      have hb0 : b < w.heap.size := HC.out.lt
      have hwk := step_i j (by omega)
      have HB5 := Lib.hid (boolp_calls b c 5 (by omega) (by omega) wr HCR.out)
      clear hbr
      go_wp2_with fail
      refine HB5.out.mono ?_
      rintro e w2 ⟨q, rfl, hc2, hby2⟩
      have HC2 := Lib.hid hc2
      have HB2 := Lib.hid (by_trans HBR.out hby2)
      have HO2 := Lib.hid (HOW.out.kept hby2 (own_far HOW.out hb0))
      have hln : r.length + 1 ≤ 4398046511104 := by have := HRL.out; omega
      have HJ := Lib.hid hlt
      clear hc2 hby2 HOW HBR HCR HB5
      cases q with
      | true =>
        have hbase : w.heap.size ≤ w2.heap.size := HB2.out.size
        go_wp2_with (at_builtin; go_must (refine wpList_append_own _ rfl _ _ 43 rfl w.heap.size 56 i (V.val ⟨0, 0, ⟨#[]⟩⟩) 3 32 Tryd.underlying43 HI.out HZ.out HSZ.out HBY.out rfl (by decide) _ r.length (flat r) rfl (World.ownsRow.alloc HO2.out _) ⟨w2.heap.size, 0, none⟩ 1 1 [.int .i64 2, .int .i64 0, .string ⟨#[]⟩] rfl rfl ?c1 ?c2 ?c3 ?c4 ?c5 ?_))
        case c1 => exact cell_three_new _ _ _ _ _
        case c2 => intro x hx; simp at hx; rcases hx with rfl | rfl | rfl <;> rfl
        case c3 => unfold maxLen; omega
        case c4 => omega
        case c5 => simp; omega
        intro v' w7 hown' hgrow hnil
        have HF := Lib.hid (row_snoc (x := ⟨2, 0, ⟨#[]⟩⟩) HC.out HC2.out HB2.out HO2.out hown' hgrow)
        clear hown' hgrow hnil hlt' hlt hkl' hj d0 hkb hge
        go_wp2
        generalize wrap64 ((j : Int) + 1) = z at hwk ⊢
        subst hwk
        have hjj := HJ.out
        exact ⟨⟨j + 1, r ++ [⟨2, 0, ⟨#[]⟩⟩], by omega, by go_num, by rw [List.length_append, HRL.out]; rfl, HKR.out _ (.inr (.inr rfl)), HALL.out.snoc (by simp [validB, validP, data_empty]) (by unfold isNum; simp), HF.out⟩, by simp [intOf]; omega⟩
      | false =>
        have HB6 := Lib.hid (boolp_calls b c 5 (by omega) (by omega) w2 HC2.out)
        go_wp2_with fail
        refine HB6.out.mono ?_
        rintro e w3 ⟨q, rfl, hc3, hby3⟩
        have HC3 := Lib.hid hc3
        have HB3 := Lib.hid (by_trans HB2.out hby3)
        have HO3 := Lib.hid (HO2.out.kept hby3 (own_far HO2.out hb0))
        clear hc3 hby3 HO2 HB2 HC2 HB6
        cases q with
        | true =>
          have hbase : w.heap.size ≤ w3.heap.size := HB3.out.size
          go_wp2_with (at_builtin; go_must (refine wpList_append_own _ rfl _ _ 43 rfl w.heap.size 56 i (V.val ⟨0, 0, ⟨#[]⟩⟩) 3 32 Tryd.underlying43 HI.out HZ.out HSZ.out HBY.out rfl (by decide) _ r.length (flat r) rfl (World.ownsRow.alloc HO3.out _) ⟨w3.heap.size, 0, none⟩ 1 1 [.int .i64 1, .int .i64 0, .string ⟨#[]⟩] rfl rfl ?c1 ?c2 ?c3 ?c4 ?c5 ?_))
          case c1 => exact cell_three_new _ _ _ _ _
          case c2 => intro x hx; simp at hx; rcases hx with rfl | rfl | rfl <;> rfl
          case c3 => unfold maxLen; omega
          case c4 => omega
          case c5 => simp; omega
          intro v' w7 hown' hgrow hnil
          have HF := Lib.hid (row_snoc (x := ⟨1, 0, ⟨#[]⟩⟩) HC.out HC3.out HB3.out HO3.out hown' hgrow)
          clear hown' hgrow hnil hlt' hlt hkl' hj d0 hkb hge
          go_wp2
          generalize wrap64 ((j : Int) + 1) = z at hwk ⊢
          subst hwk
          have hjj := HJ.out
          exact ⟨⟨j + 1, r ++ [⟨1, 0, ⟨#[]⟩⟩], by omega, by go_num, by rw [List.length_append, HRL.out]; rfl, HKR.out _ (.inr (.inl rfl)), HALL.out.snoc (by simp [validB, validP, data_empty]) (by unfold isNum; simp), HF.out⟩, by simp [intOf]; omega⟩
        | false =>
          have HV := Lib.hid (caseValueK_calls b c kk HKJ.out.1 HKJ.out.2 w3 HC3.out)
          go_wp2_with fail
          refine HV.out.mono ?_
          rintro e w4 ⟨⟨vk, vn, vt⟩, rfl, hvk, hval, hnum, hc4, hby4⟩
          have HC4 := Lib.hid hc4
          have HB4 := Lib.hid (by_trans HB3.out hby4)
          have HO4 := Lib.hid (HO3.out.kept hby4 (own_far HO3.out hb0))
          have HVN := Lib.hid (And.intro hvk (And.intro hval hnum))
          have hbase : w.heap.size ≤ w4.heap.size := HB4.out.size
          clear hc4 hby4 HO3 HB3 HC3 HV hvk hval hnum
          go_wp2_with (at_builtin; go_must (refine wpList_append_own _ rfl _ _ 43 rfl w.heap.size 56 i (V.val ⟨0, 0, ⟨#[]⟩⟩) 3 32 Tryd.underlying43 HI.out HZ.out HSZ.out HBY.out rfl (by decide) _ r.length (flat r) rfl (World.ownsRow.alloc HO4.out _) ⟨w4.heap.size, 0, none⟩ 1 1 [.int .i64 vk, .int .i64 vn, .string vt] rfl rfl ?c1 ?c2 ?c3 ?c4 ?c5 ?_))
          case c1 => exact cell_three_new _ _ _ _ _
          case c2 => intro x hx; simp at hx; rcases hx with rfl | rfl | rfl <;> rfl
          case c3 => unfold maxLen; omega
          case c4 => omega
          case c5 => simp; omega
          intro v' w7 hown' hgrow hnil
          have HF := Lib.hid (row_snoc (x := ⟨vk, vn, vt⟩) HC.out HC4.out HB4.out HO4.out hown' hgrow)
          clear hown' hgrow hnil hlt' hlt hkl' hj d0 hkb hge
          go_wp2
          generalize wrap64 ((j : Int) + 1) = z at hwk ⊢
          subst hwk
          have hjj := HJ.out
          exact ⟨⟨j + 1, r ++ [⟨vk, vn, vt⟩], by omega, by go_num, by rw [List.length_append, HRL.out]; rfl, HKR.out _ (.inl HVN.out.1), HALL.out.snoc HVN.out.2.1 HVN.out.2.2, HF.out⟩, by simp [intOf]; omega⟩
    · have hlt' : decide ((j : Int) < (N : Int)) = false := by simp; omega
      have HF : Hid (r.length = ks.length) := by show _ = _; have := HRL.out; have := HN.out; omega
      go_wp2
      go_ret
      exact ⟨_, r, rfl, HF.out, HCE.out, HALL.out, HOW.out, HCR.out, HBR.out⟩
end Go.Proofs.YtlchcakmcikjnaaDoor
