/- The contract of the laws' kinds. -/
import Derived.Test.YteihifhmoalafaaDoorPw
import Derived.Test.YteihifhmoalafaaDoorPz
set_option linter.unusedSimpArgs false
set_option linter.unusedVariables false
namespace Go.Proofs.YteihifhmoalafaaDoor
open Go.RowKit

theorem wrap_i64 {n : Int} (h0 : -4398046511104 ≤ n) (h : n ≤ 4398046511104) : wrap64 n = n := by
  unfold wrap64
  omega
def KindsOk (l : List Int) : Prop := ∀ k ∈ l, 3 ≤ k ∧ k ≤ 5
def GotKinds (b : Nat) (c : CaseId) (most : Nat) (w : World) (e : Ending) (w' : World) : Prop :=
  ∃ (v : Value) (l : List Int), e = .returned v ∧ l.length ≤ most ∧ KindsOk l ∧ OwnN w' w.heap.size v l ∧ CaseAt w' b c ∧ w.grownBy w' (some b)
theorem OwnN.far {base b : Nat} {w w' : World} {v : Value} {l : List Int} (h : OwnN w base v l) (hg : w.grownBy w' (some b)) (hb : b < base) : OwnN w' base v l := World.ownsRow.kept h hg (own_far h hb)
theorem kindsOk_B {l : List Int} (h : KindsOk l) : kindsB l = true := by
  unfold kindsB
  rw [List.all_eq_true]
  intro k hk
  obtain ⟨h1, h2⟩ := h k hk
  obtain rfl | rfl | rfl : k = 3 ∨ k = 4 ∨ k = 5 := by omega
  all_goals rfl
set_option maxHeartbeats 1000000 in
set_option maxRecDepth 100000 in
theorem kinds_calls (b : Nat) (c : CaseId) (most : Nat) (hmost : most ≤ 8) (w : World) (hc : CaseAt w b c) : Calls Tryd.prog 11 #[.pointer (some ⟨b, 0, none⟩), .int .i64 most] w (GotKinds b c most w) := by
  obtain ⟨i, hi, hz, hsz, hby⟩ := info_parts infoI
  have HC := Lib.hid hc
  have HI := Lib.hid hi
  have HZ := Lib.hid hz
  have HSZ := Lib.hid hsz
  have HBY := Lib.hid hby
  have hwm : wrap64 ((most : Int) + 1) = (most : Int) + 1 := wrap_more _ (by omega) (by omega)
  have HI1 := Lib.hid (int_calls b c ((most : Int) + 1) (by omega) (by omega) w hc)
  clear hc hi hz hsz hby
  go_enter Tryd.func11, Tryd.ntmps11
  go_wp2_with fail
  refine HI1.out.mono ?_
  rintro e w1 ⟨x, rfl, hx0, hx1, hcs, hby⟩
  have HC1 := Lib.hid hcs
  have HB1 := Lib.hid hby
  obtain ⟨m, rfl⟩ : ∃ m : Nat, x = m := ⟨x.toNat, by omega⟩
  have HM : Hid (m ≤ most) := by show _ ≤ _; omega
  clear hcs hby hwm HI1 hx0 hx1
  go_wp2_with fail
  go_loopw [5, 6] (fun v i wr => ∃ (k : Nat) (l : List Int), k + l.length ≤ most ∧ i = .int .i64 k ∧ KindsOk l ∧ OwnN wr w.heap.size v l ∧ CaseAt wr b c ∧ w.grownBy wr (some b)) (fun _ i _ => (intOf i).toNat)
  case atStart => exact ⟨m, [], by simp; exact HM.out, rfl, fun k hk => absurd hk (by simp), World.ownsRow_nil _ _ _ _, HC1.out, HB1.out⟩
  case round =>
    obtain ⟨k, l, hkl, rfl, hok, hown, hcr, hbr⟩ := hrel
    have HOW := Lib.hid hown
    have HCR := Lib.hid hcr
    have HBR := Lib.hid hbr
    have HOK := Lib.hid hok
    have HKL := Lib.hid hkl
    clear hown hcr hbr hok HC1 HB1
    by_cases hlt : 0 < k
    · have hlt' : decide ((0 : Int) < (k : Int)) = true := by simp; omega
      have hwj := wrap_pred k hlt (by omega)
      go_wp2_with fail
      refine (int_calls b c 3 (by omega) (by omega) _ HCR.out).mono ?_
      rintro e w2 ⟨y, rfl, hy0, hy1, hcs, hby⟩
      have hb0 : b < w.heap.size := HC.out.lt
      have HC2 := Lib.hid hcs
      have HB2 := Lib.hid (by_trans HBR.out hby)
      have HO2 := Lib.hid (HOW.out.far hby hb0)
      have HY : Hid (3 ≤ 3 + y ∧ 3 + y ≤ 5) := by constructor <;> omega
      have hwy : wrap64 (3 + y) = 3 + y := wrap_i64 (by omega) (by omega)
      have HWY := Lib.hid hwy
      have hln : l.length + 1 ≤ 4398046511104 := by omega
      have hbase : w.heap.size ≤ w2.heap.size := HB2.out.size
      clear hcs hby hy0 hy1 HCR HBR HOW
      go_wp2_with (at_builtin; go_must (refine wpList_append_own _ rfl _ _ 30 rfl w.heap.size 3 i (.int .i64 0) 1 8 Tryd.underlying30 HI.out HZ.out HSZ.out HBY.out rfl (by decide) _ l.length (ints l) rfl (World.ownsRow.alloc HO2.out _) ⟨w2.heap.size, 0, none⟩ 1 1 [.int .i64 (3 + y)] rfl rfl ?c1 ?c2 ?c3 ?c4 ?c5 ?_))
      case c1 => exact cell_one_new' _ _ _
      case c2 => intro x hx; simp at hx; subst hx; rfl
      case c3 => unfold maxLen; omega
      case c4 => omega
      case c5 => simp; omega
      intro v' w7 hown' hgrow hnil
      have HF : Hid (OwnN w7 w.heap.size v' (l ++ [3 + y]) ∧ CaseAt w7 b c ∧ w.grownBy w7 (some b)) := by
        have hal := World.grownBy_alloc w2 (.cells #[.int .i64 (3 + y)] 3)
        refine ⟨?_, ?_, ?_⟩
        · show World.ownsRow _ _ _ _ _ _ _
          rw [List.length_append, ints_append]; exact hown'
        · exact HC.out.kept (HC2.out.grown (hal none)) hgrow (fun k hk => (HO2.out.lt k hk).1)
        · exact by_own (by_trans HB2.out (hal _)) hgrow (fun k hk => (HO2.out.lt k hk).1)
      clear hown' hgrow hnil hwy
      go_wp2
      go_roundw
      case rel =>
        refine ⟨k - 1, l ++ [3 + y], by simp; omega, by congr 1; omega, fun q hq => ?_, HF.out⟩
        rcases List.mem_append.1 hq with h | h
        · exact HOK.out q h
        · rw [List.mem_singleton] at h; subst h; exact HY.out
      case measure => simp only [intOf]; omega
    · obtain rfl : k = 0 := by omega
      go_wp2
      go_ret
      exact ⟨_, l, rfl, by omega, HOK.out, HOW.out, HCR.out, HBR.out⟩
end Go.Proofs.YteihifhmoalafaaDoor
